/- Circuits that are made: AddAnd and AddOr, in the program. -/
import Derived.Test.YtmimefcljdllcaaMkZ
import Derived.Test.YtmimefcljdllcaaMkE
import Derived.Test.YtmimefcljdllcaaCiV
namespace Go.Proofs.Ytmimefcljdllcaa
open Go.RowKit

set_option maxRecDepth 100000 in
set_option maxHeartbeats 2000000 in
theorem addAnd_impl (s : Ci) (a b : Int) (A : Option Addr) (n c : Nat) (w : World) (h1 : Mem.rd w w.heap.size [.slice A n c] s.gates) :
    Calls Try.prog 26 #[.agg #[.int .i64 s.ins, .slice A n c], .int .i64 a, .int .i64 b] w (GivesCiN w (addAndB s a b).1 (addAndB s a b).2) := by
  obtain rfl : s.gates.length = n := rd_len h1
  have HE := Lib.hid (fun W (B : Below w.heap.size w W) => hasEdges_any s A s.gates.length c (some ⟨W.heap.size, 0, none⟩) 2 2 [a, b] (W.alloc (.cells #[.int .i64 a, .int .i64 b] 3)) (Mem.rd_on_alloc (Mem.rd_on h1 B) _) (rd_new2 W a b))
  have BX := Lib.hid (two_boxes w #[.int .i64 s.ins, .slice A s.gates.length c] #[.int .i64 0, .slice none 0 0] 29 29)
  have B0 : Below w.heap.size w ((w.alloc (.cells #[.int .i64 s.ins, .slice A s.gates.length c] 29)).alloc (.cells #[.int .i64 0, .slice none 0 0] 29)) := (below_alloc w _).alloc (by simp) _
  cases k1 : (ckB s && areE s [a, b])
  · have hE : addAndB s a b = (⟨0, []⟩, -1) := addB_no k1
    rw [hE]
    rw [k1] at HE
    obtain ⟨m, gs⟩ := s
    dsimp only at *
    clear hE k1 h1
    have HE0 := HE.out _ B0
    simp only [World.size_alloc] at HE0
    go_enter Try.func26, Try.ntmps26
    go_wp2_with fail
    refine HE0.mono ?_
    rintro e w1 ⟨rfl, b1'⟩
    have b1 := below_call b1'
    obtain ⟨B1, kb1, kr1⟩ := BX.out _ b1
    have x0 := kb1.cell 0
    have x1 := kb1.cell 1
    have f0 := kr1.frozen 0
    have f1 := kr1.frozen 1
    have y0 := kr1.cell 0
    have y1 := kr1.cell 1
    simp only [List.getElem?_cons_zero, List.getElem?_cons_succ] at x0 x1 y0 y1
    go_wp2
    have K2 := (kr1.set 0 (.int .i64 0)).set 1 (.slice none 0 0)
    have b8 := (B1.setCell (p := ⟨w.heap.size + 1, 0, none⟩) (Nat.le_succ _) (.int .i64 0)).setCell (p := ⟨w.heap.size + 1, 1, none⟩) (Nat.le_succ _) (.slice none 0 0)
    generalize (w1.setCell ⟨w.heap.size + 1, 0, none⟩ (.int .i64 0)).setCell ⟨w.heap.size + 1, 1, none⟩ (.slice none 0 0) = w8 at K2 b8 ⊢
    have r0 := K2.cell 0
    have r1 := K2.cell 1
    simp only [List.set_cons_zero, List.set_cons_succ, List.getElem?_cons_zero, List.getElem?_cons_succ] at r0 r1
    exact bodyPost_ret (v := .tuple #[.agg #[.int .i64 0, .slice none 0 0], .int .i64 (-1)]) (by simp [results, Try.results26, go_sem, r0, r1]) rfl (gives_ci_nil b8)
  · have hE : addAndB s a b = toldB (andB s a b) := addB_yes k1
    rw [hE]
    rw [k1] at HE
    have k2 := k1
    rw [Bool.and_eq_true] at k2
    have ok := ckB_iff.1 k2.1
    have gd := Gd.of_ok ok
    have hnn := Ci.nodes_le ok.lo ok.hi ok.few
    obtain ⟨a0, a1⟩ := isE_iff.1 (List.all_eq_true.1 k2.2 a (by simp))
    obtain ⟨b0, b1⟩ := isE_iff.1 (List.all_eq_true.1 k2.2 b (by simp))
    have MO := Lib.hid (fun W (B : Below w.heap.size w W) => makerOf_any s A s.gates.length c W (Mem.rd_on h1 B) gd)
    have CO := Lib.hid (fun base g W (hM : MkAt W base g s false) (hb : base ≤ W.heap.size) => and_mk s false a b base g W hM hb gd a0 (by omega) b0 (by omega))
    have hlo : -1 ≤ (andB s a b).2 := andB_lo gd a0 (by omega) b0 (by omega)
    have hfew : (andB s a b).1.gates.length ≤ 600 := andB_few gd a0 (by omega) b0 (by omega)
    generalize andB s a b = R at *
    obtain ⟨⟨rm, rg⟩, re⟩ := R
    obtain ⟨m, gs⟩ := s
    dsimp only at *
    clear hE k1 k2 h1 ok gd hnn a0 a1 b0 b1
    by_cases hre : re < 0
    · have hT : toldB (⟨rm, rg⟩, re) = (⟨0, []⟩, -1) := if_pos hre
      rw [hT]
      clear hT hlo
      dsimp only
      have HE0 := HE.out _ B0
      simp only [World.size_alloc] at HE0
      go_enter Try.func26, Try.ntmps26
      go_wp2_with fail
      refine HE0.mono ?_
      rintro e w1 ⟨rfl, b1'⟩
      have b1 := below_call b1'
      obtain ⟨B1, kb1, kr1⟩ := BX.out _ b1
      have x0 := kb1.cell 0
      have x1 := kb1.cell 1
      have f0 := kr1.frozen 0
      have f1 := kr1.frozen 1
      have y0 := kr1.cell 0
      have y1 := kr1.cell 1
      simp only [List.getElem?_cons_zero, List.getElem?_cons_succ] at x0 x1 y0 y1
      go_wp2_with fail
      refine (MO.out _ B1).mono ?_
      rintro e w6 ⟨g, rfl, hm6, cc6⟩
      have b6 := b1.trans (cc6.mono b1.size)
      go_wp2_with fail
      refine (CO.out w1.heap.size g w6 hm6 cc6.size).mono ?_
      rintro e w7 ⟨x7, c7, f7, rfl, hm7, hg7, q0, q1, d7, u7, v7⟩
      have b7 := b6.trans (d7.mono b1.size)
      obtain ⟨B7, kb7, kr7⟩ := BX.out _ b7
      have x0 := kb7.cell 0
      have x1 := kb7.cell 1
      have f0 := kr7.frozen 0
      have f1 := kr7.frozen 1
      have y0 := kr7.cell 0
      have y1 := kr7.cell 1
      simp only [List.getElem?_cons_zero, List.getElem?_cons_succ] at x0 x1 y0 y1
      obtain rfl : f7 = true := v7 (.inr hre)
      go_wp2_with fail
      refine (told_no c7 x7 w1.heap.size g _ hm7).mono ?_
      rintro e w9 ⟨rfl, d9⟩
      have b9 := b7.trans (d9.mono b7.size)
      obtain ⟨B9, kb9, kr9⟩ := BX.out _ b9
      have x0 := kb9.cell 0
      have x1 := kb9.cell 1
      have f0 := kr9.frozen 0
      have f1 := kr9.frozen 1
      have y0 := kr9.cell 0
      have y1 := kr9.cell 1
      simp only [List.getElem?_cons_zero, List.getElem?_cons_succ] at x0 x1 y0 y1
      go_wp2
      have K2 := (kr9.set 0 (.int .i64 0)).set 1 (.slice none 0 0)
      have b8 := (B9.setCell (p := ⟨w.heap.size + 1, 0, none⟩) (Nat.le_succ _) (.int .i64 0)).setCell (p := ⟨w.heap.size + 1, 1, none⟩) (Nat.le_succ _) (.slice none 0 0)
      generalize (w9.setCell ⟨w.heap.size + 1, 0, none⟩ (.int .i64 0)).setCell ⟨w.heap.size + 1, 1, none⟩ (.slice none 0 0) = w8 at K2 b8 ⊢
      have r0 := K2.cell 0
      have r1 := K2.cell 1
      simp only [List.set_cons_zero, List.set_cons_succ, List.getElem?_cons_zero, List.getElem?_cons_succ] at r0 r1
      exact bodyPost_ret (v := .tuple #[.agg #[.int .i64 0, .slice none 0 0], .int .i64 (-1)]) (by simp [results, Try.results26, go_sem, r0, r1]) rfl (gives_ci_nil b8)
    · have hT : toldB (⟨rm, rg⟩, re) = (⟨rm, rg⟩, re) := if_neg hre
      rw [hT]
      have hre : 0 ≤ re := by omega
      clear hT hlo
      dsimp only
      have HE0 := HE.out _ B0
      simp only [World.size_alloc] at HE0
      go_enter Try.func26, Try.ntmps26
      go_wp2_with fail
      refine HE0.mono ?_
      rintro e w1 ⟨rfl, b1'⟩
      have b1 := below_call b1'
      obtain ⟨B1, kb1, kr1⟩ := BX.out _ b1
      have x0 := kb1.cell 0
      have x1 := kb1.cell 1
      have f0 := kr1.frozen 0
      have f1 := kr1.frozen 1
      have y0 := kr1.cell 0
      have y1 := kr1.cell 1
      simp only [List.getElem?_cons_zero, List.getElem?_cons_succ] at x0 x1 y0 y1
      go_wp2_with fail
      refine (MO.out _ B1).mono ?_
      rintro e w6 ⟨g, rfl, hm6, cc6⟩
      have b6 := b1.trans (cc6.mono b1.size)
      go_wp2_with fail
      refine (CO.out w1.heap.size g w6 hm6 cc6.size).mono ?_
      rintro e w7 ⟨x7, c7, f7, rfl, hm7, hg7, q0, q1, d7, u7, v7⟩
      have b7 := b6.trans (d7.mono b1.size)
      obtain ⟨B7, kb7, kr7⟩ := BX.out _ b7
      have x0 := kb7.cell 0
      have x1 := kb7.cell 1
      have f0 := kr7.frozen 0
      have f1 := kr7.frozen 1
      have y0 := kr7.cell 0
      have y1 := kr7.cell 1
      simp only [List.getElem?_cons_zero, List.getElem?_cons_succ] at x0 x1 y0 y1
      obtain ⟨e7, e8, e9⟩ := u7 rfl hre
      subst e7
      subst e8
      subst e9
      go_wp2_with fail
      refine (told_yes ⟨rm, rg⟩ x7 w1.heap.size g _ hm7).mono ?_
      rintro e w9 ⟨A7, c7, rfl, o9, d9⟩
      have b9 := b7.trans (d9.mono b7.size)
      obtain ⟨B9, kb9, kr9⟩ := BX.out _ b9
      have x0 := kb9.cell 0
      have x1 := kb9.cell 1
      have f0 := kr9.frozen 0
      have f1 := kr9.frozen 1
      have y0 := kr9.cell 0
      have y1 := kr9.cell 1
      simp only [List.getElem?_cons_zero, List.getElem?_cons_succ] at x0 x1 y0 y1
      have hz9 : w.heap.size + 1 < w1.heap.size := kr1.lt
      dsimp only at o9
      have n9 : (Value.slice A7 rg.length c7).ownBlock ≠ some (w.heap.size + 1) := fun e => by have := (o9.lt _ e).1; omega
      go_wp2
      have K2 := (kr9.set 0 (.int .i64 rm)).set 1 (.slice A7 rg.length c7)
      have o8 := own_away (own_away o9 (p := ⟨w.heap.size + 1, 0, none⟩) (.int .i64 rm) n9) (p := ⟨w.heap.size + 1, 1, none⟩) (.slice A7 rg.length c7) n9
      have b8 := (B9.setCell (p := ⟨w.heap.size + 1, 0, none⟩) (Nat.le_succ _) (.int .i64 rm)).setCell (p := ⟨w.heap.size + 1, 1, none⟩) (Nat.le_succ _) (.slice A7 rg.length c7)
      generalize (w9.setCell ⟨w.heap.size + 1, 0, none⟩ (.int .i64 rm)).setCell ⟨w.heap.size + 1, 1, none⟩ (.slice A7 rg.length c7) = w8 at K2 b8 o8 ⊢
      have r0 := K2.cell 0
      have r1 := K2.cell 1
      simp only [List.set_cons_zero, List.set_cons_succ, List.getElem?_cons_zero, List.getElem?_cons_succ] at r0 r1
      obtain ⟨fp, q1, q2, q3⟩ := own_flat (α := Ga) o8 rfl (by unfold maxLen; have := hfew; omega)
      exact bodyPost_ret (v := .tuple #[.agg #[.int .i64 rm, .slice A7 rg.length c7], .int .i64 x7]) (by simp [results, Try.results26, go_sem, r0, r1]) rfl ⟨A7, _, c7, fp, rfl, q1, q2, fun x hx => by have := q3 x hx; have := kb1.lt; omega, b8⟩
set_option maxRecDepth 100000 in
set_option maxHeartbeats 2000000 in
theorem addOr_impl (s : Ci) (a b : Int) (A : Option Addr) (n c : Nat) (w : World) (h1 : Mem.rd w w.heap.size [.slice A n c] s.gates) :
    Calls Try.prog 29 #[.agg #[.int .i64 s.ins, .slice A n c], .int .i64 a, .int .i64 b] w (GivesCiN w (addOrB s a b).1 (addOrB s a b).2) := by
  obtain rfl : s.gates.length = n := rd_len h1
  have HE := Lib.hid (fun W (B : Below w.heap.size w W) => hasEdges_any s A s.gates.length c (some ⟨W.heap.size, 0, none⟩) 2 2 [a, b] (W.alloc (.cells #[.int .i64 a, .int .i64 b] 3)) (Mem.rd_on_alloc (Mem.rd_on h1 B) _) (rd_new2 W a b))
  have BX := Lib.hid (two_boxes w #[.int .i64 s.ins, .slice A s.gates.length c] #[.int .i64 0, .slice none 0 0] 29 29)
  have B0 : Below w.heap.size w ((w.alloc (.cells #[.int .i64 s.ins, .slice A s.gates.length c] 29)).alloc (.cells #[.int .i64 0, .slice none 0 0] 29)) := (below_alloc w _).alloc (by simp) _
  cases k1 : (ckB s && areE s [a, b])
  · have hE : addOrB s a b = (⟨0, []⟩, -1) := addB_no k1
    rw [hE]
    rw [k1] at HE
    obtain ⟨m, gs⟩ := s
    dsimp only at *
    clear hE k1 h1
    have HE0 := HE.out _ B0
    simp only [World.size_alloc] at HE0
    go_enter Try.func29, Try.ntmps29
    go_wp2_with fail
    refine HE0.mono ?_
    rintro e w1 ⟨rfl, b1'⟩
    have b1 := below_call b1'
    obtain ⟨B1, kb1, kr1⟩ := BX.out _ b1
    have x0 := kb1.cell 0
    have x1 := kb1.cell 1
    have f0 := kr1.frozen 0
    have f1 := kr1.frozen 1
    have y0 := kr1.cell 0
    have y1 := kr1.cell 1
    simp only [List.getElem?_cons_zero, List.getElem?_cons_succ] at x0 x1 y0 y1
    go_wp2
    have K2 := (kr1.set 0 (.int .i64 0)).set 1 (.slice none 0 0)
    have b8 := (B1.setCell (p := ⟨w.heap.size + 1, 0, none⟩) (Nat.le_succ _) (.int .i64 0)).setCell (p := ⟨w.heap.size + 1, 1, none⟩) (Nat.le_succ _) (.slice none 0 0)
    generalize (w1.setCell ⟨w.heap.size + 1, 0, none⟩ (.int .i64 0)).setCell ⟨w.heap.size + 1, 1, none⟩ (.slice none 0 0) = w8 at K2 b8 ⊢
    have r0 := K2.cell 0
    have r1 := K2.cell 1
    simp only [List.set_cons_zero, List.set_cons_succ, List.getElem?_cons_zero, List.getElem?_cons_succ] at r0 r1
    exact bodyPost_ret (v := .tuple #[.agg #[.int .i64 0, .slice none 0 0], .int .i64 (-1)]) (by simp [results, Try.results29, go_sem, r0, r1]) rfl (gives_ci_nil b8)
  · have hE : addOrB s a b = toldB (orB s a b) := addB_yes k1
    rw [hE]
    rw [k1] at HE
    have k2 := k1
    rw [Bool.and_eq_true] at k2
    have ok := ckB_iff.1 k2.1
    have gd := Gd.of_ok ok
    have hnn := Ci.nodes_le ok.lo ok.hi ok.few
    obtain ⟨a0, a1⟩ := isE_iff.1 (List.all_eq_true.1 k2.2 a (by simp))
    obtain ⟨b0, b1⟩ := isE_iff.1 (List.all_eq_true.1 k2.2 b (by simp))
    have MO := Lib.hid (fun W (B : Below w.heap.size w W) => makerOf_any s A s.gates.length c W (Mem.rd_on h1 B) gd)
    have CO := Lib.hid (fun base g W (hM : MkAt W base g s false) (hb : base ≤ W.heap.size) => or_mk s false a b base g W hM hb gd a0 (by omega) b0 (by omega))
    have hlo : -1 ≤ (orB s a b).2 := orB_lo gd a0 (by omega) b0 (by omega)
    have hfew : (orB s a b).1.gates.length ≤ 600 := orB_few gd a0 (by omega) b0 (by omega)
    generalize orB s a b = R at *
    obtain ⟨⟨rm, rg⟩, re⟩ := R
    obtain ⟨m, gs⟩ := s
    dsimp only at *
    clear hE k1 k2 h1 ok gd hnn a0 a1 b0 b1
    by_cases hre : re < 0
    · have hT : toldB (⟨rm, rg⟩, re) = (⟨0, []⟩, -1) := if_pos hre
      rw [hT]
      clear hT hlo
      dsimp only
      have HE0 := HE.out _ B0
      simp only [World.size_alloc] at HE0
      go_enter Try.func29, Try.ntmps29
      go_wp2_with fail
      refine HE0.mono ?_
      rintro e w1 ⟨rfl, b1'⟩
      have b1 := below_call b1'
      obtain ⟨B1, kb1, kr1⟩ := BX.out _ b1
      have x0 := kb1.cell 0
      have x1 := kb1.cell 1
      have f0 := kr1.frozen 0
      have f1 := kr1.frozen 1
      have y0 := kr1.cell 0
      have y1 := kr1.cell 1
      simp only [List.getElem?_cons_zero, List.getElem?_cons_succ] at x0 x1 y0 y1
      go_wp2_with fail
      refine (MO.out _ B1).mono ?_
      rintro e w6 ⟨g, rfl, hm6, cc6⟩
      have b6 := b1.trans (cc6.mono b1.size)
      go_wp2_with fail
      refine (CO.out w1.heap.size g w6 hm6 cc6.size).mono ?_
      rintro e w7 ⟨x7, c7, f7, rfl, hm7, hg7, q0, q1, d7, u7, v7⟩
      have b7 := b6.trans (d7.mono b1.size)
      obtain ⟨B7, kb7, kr7⟩ := BX.out _ b7
      have x0 := kb7.cell 0
      have x1 := kb7.cell 1
      have f0 := kr7.frozen 0
      have f1 := kr7.frozen 1
      have y0 := kr7.cell 0
      have y1 := kr7.cell 1
      simp only [List.getElem?_cons_zero, List.getElem?_cons_succ] at x0 x1 y0 y1
      obtain rfl : f7 = true := v7 (.inr hre)
      go_wp2_with fail
      refine (told_no c7 x7 w1.heap.size g _ hm7).mono ?_
      rintro e w9 ⟨rfl, d9⟩
      have b9 := b7.trans (d9.mono b7.size)
      obtain ⟨B9, kb9, kr9⟩ := BX.out _ b9
      have x0 := kb9.cell 0
      have x1 := kb9.cell 1
      have f0 := kr9.frozen 0
      have f1 := kr9.frozen 1
      have y0 := kr9.cell 0
      have y1 := kr9.cell 1
      simp only [List.getElem?_cons_zero, List.getElem?_cons_succ] at x0 x1 y0 y1
      go_wp2
      have K2 := (kr9.set 0 (.int .i64 0)).set 1 (.slice none 0 0)
      have b8 := (B9.setCell (p := ⟨w.heap.size + 1, 0, none⟩) (Nat.le_succ _) (.int .i64 0)).setCell (p := ⟨w.heap.size + 1, 1, none⟩) (Nat.le_succ _) (.slice none 0 0)
      generalize (w9.setCell ⟨w.heap.size + 1, 0, none⟩ (.int .i64 0)).setCell ⟨w.heap.size + 1, 1, none⟩ (.slice none 0 0) = w8 at K2 b8 ⊢
      have r0 := K2.cell 0
      have r1 := K2.cell 1
      simp only [List.set_cons_zero, List.set_cons_succ, List.getElem?_cons_zero, List.getElem?_cons_succ] at r0 r1
      exact bodyPost_ret (v := .tuple #[.agg #[.int .i64 0, .slice none 0 0], .int .i64 (-1)]) (by simp [results, Try.results29, go_sem, r0, r1]) rfl (gives_ci_nil b8)
    · have hT : toldB (⟨rm, rg⟩, re) = (⟨rm, rg⟩, re) := if_neg hre
      rw [hT]
      have hre : 0 ≤ re := by omega
      clear hT hlo
      dsimp only
      have HE0 := HE.out _ B0
      simp only [World.size_alloc] at HE0
      go_enter Try.func29, Try.ntmps29
      go_wp2_with fail
      refine HE0.mono ?_
      rintro e w1 ⟨rfl, b1'⟩
      have b1 := below_call b1'
      obtain ⟨B1, kb1, kr1⟩ := BX.out _ b1
      have x0 := kb1.cell 0
      have x1 := kb1.cell 1
      have f0 := kr1.frozen 0
      have f1 := kr1.frozen 1
      have y0 := kr1.cell 0
      have y1 := kr1.cell 1
      simp only [List.getElem?_cons_zero, List.getElem?_cons_succ] at x0 x1 y0 y1
      go_wp2_with fail
      refine (MO.out _ B1).mono ?_
      rintro e w6 ⟨g, rfl, hm6, cc6⟩
      have b6 := b1.trans (cc6.mono b1.size)
      go_wp2_with fail
      refine (CO.out w1.heap.size g w6 hm6 cc6.size).mono ?_
      rintro e w7 ⟨x7, c7, f7, rfl, hm7, hg7, q0, q1, d7, u7, v7⟩
      have b7 := b6.trans (d7.mono b1.size)
      obtain ⟨B7, kb7, kr7⟩ := BX.out _ b7
      have x0 := kb7.cell 0
      have x1 := kb7.cell 1
      have f0 := kr7.frozen 0
      have f1 := kr7.frozen 1
      have y0 := kr7.cell 0
      have y1 := kr7.cell 1
      simp only [List.getElem?_cons_zero, List.getElem?_cons_succ] at x0 x1 y0 y1
      obtain ⟨e7, e8, e9⟩ := u7 rfl hre
      subst e7
      subst e8
      subst e9
      go_wp2_with fail
      refine (told_yes ⟨rm, rg⟩ x7 w1.heap.size g _ hm7).mono ?_
      rintro e w9 ⟨A7, c7, rfl, o9, d9⟩
      have b9 := b7.trans (d9.mono b7.size)
      obtain ⟨B9, kb9, kr9⟩ := BX.out _ b9
      have x0 := kb9.cell 0
      have x1 := kb9.cell 1
      have f0 := kr9.frozen 0
      have f1 := kr9.frozen 1
      have y0 := kr9.cell 0
      have y1 := kr9.cell 1
      simp only [List.getElem?_cons_zero, List.getElem?_cons_succ] at x0 x1 y0 y1
      have hz9 : w.heap.size + 1 < w1.heap.size := kr1.lt
      dsimp only at o9
      have n9 : (Value.slice A7 rg.length c7).ownBlock ≠ some (w.heap.size + 1) := fun e => by have := (o9.lt _ e).1; omega
      go_wp2
      have K2 := (kr9.set 0 (.int .i64 rm)).set 1 (.slice A7 rg.length c7)
      have o8 := own_away (own_away o9 (p := ⟨w.heap.size + 1, 0, none⟩) (.int .i64 rm) n9) (p := ⟨w.heap.size + 1, 1, none⟩) (.slice A7 rg.length c7) n9
      have b8 := (B9.setCell (p := ⟨w.heap.size + 1, 0, none⟩) (Nat.le_succ _) (.int .i64 rm)).setCell (p := ⟨w.heap.size + 1, 1, none⟩) (Nat.le_succ _) (.slice A7 rg.length c7)
      generalize (w9.setCell ⟨w.heap.size + 1, 0, none⟩ (.int .i64 rm)).setCell ⟨w.heap.size + 1, 1, none⟩ (.slice A7 rg.length c7) = w8 at K2 b8 o8 ⊢
      have r0 := K2.cell 0
      have r1 := K2.cell 1
      simp only [List.set_cons_zero, List.set_cons_succ, List.getElem?_cons_zero, List.getElem?_cons_succ] at r0 r1
      obtain ⟨fp, q1, q2, q3⟩ := own_flat (α := Ga) o8 rfl (by unfold maxLen; have := hfew; omega)
      exact bodyPost_ret (v := .tuple #[.agg #[.int .i64 rm, .slice A7 rg.length c7], .int .i64 x7]) (by simp [results, Try.results29, go_sem, r0, r1]) rfl ⟨A7, _, c7, fp, rfl, q1, q2, fun x hx => by have := q3 x hx; have := kb1.lt; omega, b8⟩
noncomputable def addAnd1 (s : Ci) (a b : Int) : Ci := (addAndB s a b).1
noncomputable def addAnd2 (s : Ci) (a b : Int) : Int := (addAndB s a b).2
theorem addAnd_specR (s : Ci) (a b : Int) (A : Option Addr) (n c : Nat) (w : World) (h1 : Mem.rd w w.heap.size [.slice A n c] s.gates) :
    Calls Try.prog 25 #[.agg #[.int .i64 s.ins, .slice A n c], .int .i64 a, .int .i64 b] w (GivesCiN w (addAnd1 s a b) (addAnd2 s a b)) := addAnd_spec s a b A n c w h1
theorem addAnd_implR (s : Ci) (a b : Int) (A : Option Addr) (n c : Nat) (w : World) (h1 : Mem.rd w w.heap.size [.slice A n c] s.gates) :
    Calls Try.prog 26 #[.agg #[.int .i64 s.ins, .slice A n c], .int .i64 a, .int .i64 b] w (GivesCiN w (addAnd1 s a b) (addAnd2 s a b)) := addAnd_impl s a b A n c w h1
theorem addAnd1_len (s : Ci) (a b : Int) : (addAnd1 s a b).gates.length ≤ 1048576 := by
  unfold addAnd1 addAndB addB
  split
  · rename_i k1
    rw [Bool.and_eq_true] at k1
    have ok := ckB_iff.1 k1.1
    have hnn := Ci.nodes_le ok.lo ok.hi ok.few
    obtain ⟨a0, a1⟩ := isE_iff.1 (List.all_eq_true.1 k1.2 a (by simp))
    obtain ⟨b0, b1⟩ := isE_iff.1 (List.all_eq_true.1 k1.2 b (by simp))
    have hfew : (andB s a b).1.gates.length ≤ 600 := andB_few (Gd.of_ok ok) a0 (by omega) b0 (by omega)
    unfold toldB
    split
    · simp
    · exact Nat.le_trans hfew (by omega)
  · simp
noncomputable def addOr1 (s : Ci) (a b : Int) : Ci := (addOrB s a b).1
noncomputable def addOr2 (s : Ci) (a b : Int) : Int := (addOrB s a b).2
theorem addOr_specR (s : Ci) (a b : Int) (A : Option Addr) (n c : Nat) (w : World) (h1 : Mem.rd w w.heap.size [.slice A n c] s.gates) :
    Calls Try.prog 28 #[.agg #[.int .i64 s.ins, .slice A n c], .int .i64 a, .int .i64 b] w (GivesCiN w (addOr1 s a b) (addOr2 s a b)) := addOr_spec s a b A n c w h1
theorem addOr_implR (s : Ci) (a b : Int) (A : Option Addr) (n c : Nat) (w : World) (h1 : Mem.rd w w.heap.size [.slice A n c] s.gates) :
    Calls Try.prog 29 #[.agg #[.int .i64 s.ins, .slice A n c], .int .i64 a, .int .i64 b] w (GivesCiN w (addOr1 s a b) (addOr2 s a b)) := addOr_impl s a b A n c w h1
theorem addOr1_len (s : Ci) (a b : Int) : (addOr1 s a b).gates.length ≤ 1048576 := by
  unfold addOr1 addOrB addB
  split
  · rename_i k1
    rw [Bool.and_eq_true] at k1
    have ok := ckB_iff.1 k1.1
    have hnn := Ci.nodes_le ok.lo ok.hi ok.few
    obtain ⟨a0, a1⟩ := isE_iff.1 (List.all_eq_true.1 k1.2 a (by simp))
    obtain ⟨b0, b1⟩ := isE_iff.1 (List.all_eq_true.1 k1.2 b (by simp))
    have hfew : (orB s a b).1.gates.length ≤ 600 := orB_few (Gd.of_ok ok) a0 (by omega) b0 (by omega)
    unfold toldB
    split
    · simp
    · exact Nat.le_trans hfew (by omega)
  · simp

end Go.Proofs.Ytmimefcljdllcaa
