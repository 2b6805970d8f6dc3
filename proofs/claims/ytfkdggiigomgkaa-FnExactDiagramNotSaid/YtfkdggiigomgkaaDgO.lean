/- Diagrams: DiagramNot, DiagramAnd and DiagramOr, in the model and in the program. -/
import Derived.Test.YtfkdggiigomgkaaDgA
import Derived.Test.YtfkdggiigomgkaaDgJ
import Derived.Test.YtfkdggiigomgkaaDgU
import Derived.Test.YtfkdggiigomgkaaDgV
namespace Go.Proofs.Ytfkdggiigomgkaa
open Go.RowKit

noncomputable def twoB (d : Dg) (op a b : Int) : Dg × Int := if (dgB d && isP d a && isP d b) = true then toldD (runF op 13 d a b) else (⟨0, []⟩, -1)
set_option maxRecDepth 100000 in
set_option maxHeartbeats 4000000 in
theorem l8Two_any (d : Dg) (op a b : Int) (hop : 0 ≤ op ∧ op < 3 ∧ (op = 0 → b = 1)) (A : Option Addr) (n c : Nat) (w : World) (h1 : Mem.rd w w.heap.size [.slice A n c] d.forks) :
    Calls Try.prog 63 #[.agg #[.int .i64 d.vars, .slice A n c], .int .i64 (omOf op), .int .i64 a, .int .i64 b] w (GivesDgN w (twoB d op a b).1 (twoB d op a b).2) := by
  obtain rfl : d.forks.length = n := rd_len h1
  have CK := Lib.hid (fun W (B : Below w.heap.size w W) => dgValid_spec d A d.forks.length c W (Mem.rd_on h1 B))
  have BX := Lib.hid (two_boxes w #[.int .i64 d.vars, .slice A d.forks.length c] #[.int .i64 0, .slice none 0 0] 29 29)
  have B0 : Below w.heap.size w ((w.alloc (.cells #[.int .i64 d.vars, .slice A d.forks.length c] 29)).alloc (.cells #[.int .i64 0, .slice none 0 0] 29)) := (below_alloc w _).alloc (by simp) _
  cases k1 : dgB d
  · have hE : twoB d op a b = (⟨0, []⟩, -1) := if_neg (by rw [k1]; simp)
    rw [hE]
    rw [k1] at CK
    obtain ⟨v, fs⟩ := d
    dsimp only at *
    clear hE k1 h1
    go_enter Try.func63, Try.ntmps63
    go_wp2_with fail
    refine (CK.out _ B0).mono ?_
    rintro e w1 ⟨rfl, b1⟩
    obtain ⟨B1, kb1, kr1⟩ := BX.out _ b1
    have x0 := kb1.cell 0
    have x1 := kb1.cell 1
    have f0 := kr1.frozen 0
    have f1 := kr1.frozen 1
    have y0 := kr1.cell 0
    have y1 := kr1.cell 1
    simp only [List.getElem?_cons_zero, List.getElem?_cons_succ] at x0 x1 y0 y1
    go_wp2
    have K2 := (kr1.set 0 (.int .i64 0)).set 1 (.slice none 0 0)
    have b8 := (B1.setCell (p := ⟨w.heap.size + 1, 0, none⟩) (Nat.le_succ _) (.int .i64 0)).setCell (p := ⟨w.heap.size + 1, 1, none⟩) (Nat.le_succ _) (.slice none 0 0)
    generalize (w1.setCell ⟨w.heap.size + 1, 0, none⟩ (.int .i64 0)).setCell ⟨w.heap.size + 1, 1, none⟩ (.slice none 0 0) = w8 at K2 b8 ⊢
    have r0 := K2.cell 0
    have r1 := K2.cell 1
    simp only [List.set_cons_zero, List.set_cons_succ, List.getElem?_cons_zero, List.getElem?_cons_succ] at r0 r1
    exact bodyPost_ret (v := .tuple #[.agg #[.int .i64 0, .slice none 0 0], .int .i64 (-1)]) (by simp [results, Try.results63, go_sem, r0, r1]) rfl (gives_dg_nil b8)
  · have ok := dgB_iff.1 k1
    have few := ok.few
    have hv0 := ok.lo
    have hv1 := ok.hi
    rw [k1] at CK
    have L1 := Lib.hid (fun W (_ : Below w.heap.size w W) => l8Place_any d A c a W (by omega))
    cases q1 : isP d a
    · have hE : twoB d op a b = (⟨0, []⟩, -1) := if_neg (by rw [k1, q1]; simp)
      rw [hE]
      rw [q1] at L1
      obtain ⟨v, fs⟩ := d
      dsimp only at *
      clear hE k1 h1 ok q1
      go_enter Try.func63, Try.ntmps63
      go_wp2_with fail
      refine (CK.out _ B0).mono ?_
      rintro e w1 ⟨rfl, b1⟩
      obtain ⟨B1, kb1, kr1⟩ := BX.out _ b1
      have x0 := kb1.cell 0
      have x1 := kb1.cell 1
      have f0 := kr1.frozen 0
      have f1 := kr1.frozen 1
      have y0 := kr1.cell 0
      have y1 := kr1.cell 1
      simp only [List.getElem?_cons_zero, List.getElem?_cons_succ] at x0 x1 y0 y1
      go_wp2_with fail
      refine (L1.out _ B1).mono ?_
      rintro e w2 ⟨rfl, c2⟩
      have b2 := b1.trans (c2.mono b1.size)
      obtain ⟨B2, kb2, kr2⟩ := BX.out _ b2
      have x0 := kb2.cell 0
      have x1 := kb2.cell 1
      have f0 := kr2.frozen 0
      have f1 := kr2.frozen 1
      have y0 := kr2.cell 0
      have y1 := kr2.cell 1
      simp only [List.getElem?_cons_zero, List.getElem?_cons_succ] at x0 x1 y0 y1
      go_wp2
      have K2 := (kr2.set 0 (.int .i64 0)).set 1 (.slice none 0 0)
      have b8 := (B2.setCell (p := ⟨w.heap.size + 1, 0, none⟩) (Nat.le_succ _) (.int .i64 0)).setCell (p := ⟨w.heap.size + 1, 1, none⟩) (Nat.le_succ _) (.slice none 0 0)
      generalize (w2.setCell ⟨w.heap.size + 1, 0, none⟩ (.int .i64 0)).setCell ⟨w.heap.size + 1, 1, none⟩ (.slice none 0 0) = w8 at K2 b8 ⊢
      have r0 := K2.cell 0
      have r1 := K2.cell 1
      simp only [List.set_cons_zero, List.set_cons_succ, List.getElem?_cons_zero, List.getElem?_cons_succ] at r0 r1
      exact bodyPost_ret (v := .tuple #[.agg #[.int .i64 0, .slice none 0 0], .int .i64 (-1)]) (by simp [results, Try.results63, go_sem, r0, r1]) rfl (gives_dg_nil b8)
    · have L2 := Lib.hid (fun W (_ : Below w.heap.size w W) => l8Place_any d A c b W (by omega))
      cases q2 : isP d b
      · have hE : twoB d op a b = (⟨0, []⟩, -1) := if_neg (by rw [k1, q1, q2]; simp)
        rw [hE]
        rw [q1] at L1
        rw [q2] at L2
        obtain ⟨v, fs⟩ := d
        dsimp only at *
        clear hE k1 h1 ok q1 q2
        go_enter Try.func63, Try.ntmps63
        go_wp2_with fail
        refine (CK.out _ B0).mono ?_
        rintro e w1 ⟨rfl, b1⟩
        obtain ⟨B1, kb1, kr1⟩ := BX.out _ b1
        have x0 := kb1.cell 0
        have x1 := kb1.cell 1
        have f0 := kr1.frozen 0
        have f1 := kr1.frozen 1
        have y0 := kr1.cell 0
        have y1 := kr1.cell 1
        simp only [List.getElem?_cons_zero, List.getElem?_cons_succ] at x0 x1 y0 y1
        go_wp2_with fail
        refine (L1.out _ B1).mono ?_
        rintro e w2 ⟨rfl, c2⟩
        have b2 := b1.trans (c2.mono b1.size)
        obtain ⟨B2, kb2, kr2⟩ := BX.out _ b2
        have x0 := kb2.cell 0
        have x1 := kb2.cell 1
        have f0 := kr2.frozen 0
        have f1 := kr2.frozen 1
        have y0 := kr2.cell 0
        have y1 := kr2.cell 1
        simp only [List.getElem?_cons_zero, List.getElem?_cons_succ] at x0 x1 y0 y1
        go_wp2_with fail
        refine (L2.out _ B2).mono ?_
        rintro e w3 ⟨rfl, c3⟩
        have b3 := b2.trans (c3.mono b2.size)
        obtain ⟨B3, kb3, kr3⟩ := BX.out _ b3
        have x0 := kb3.cell 0
        have x1 := kb3.cell 1
        have f0 := kr3.frozen 0
        have f1 := kr3.frozen 1
        have y0 := kr3.cell 0
        have y1 := kr3.cell 1
        simp only [List.getElem?_cons_zero, List.getElem?_cons_succ] at x0 x1 y0 y1
        go_wp2
        have K2 := (kr3.set 0 (.int .i64 0)).set 1 (.slice none 0 0)
        have b8 := (B3.setCell (p := ⟨w.heap.size + 1, 0, none⟩) (Nat.le_succ _) (.int .i64 0)).setCell (p := ⟨w.heap.size + 1, 1, none⟩) (Nat.le_succ _) (.slice none 0 0)
        generalize (w3.setCell ⟨w.heap.size + 1, 0, none⟩ (.int .i64 0)).setCell ⟨w.heap.size + 1, 1, none⟩ (.slice none 0 0) = w8 at K2 b8 ⊢
        have r0 := K2.cell 0
        have r1 := K2.cell 1
        simp only [List.set_cons_zero, List.set_cons_succ, List.getElem?_cons_zero, List.getElem?_cons_succ] at r0 r1
        exact bodyPost_ret (v := .tuple #[.agg #[.int .i64 0, .slice none 0 0], .int .i64 (-1)]) (by simp [results, Try.results63, go_sem, r0, r1]) rfl (gives_dg_nil b8)
      · have hE : twoB d op a b = toldD (runF op 13 d a b) := if_pos (by rw [k1, q1, q2]; rfl)
        rw [hE]
        rw [q1] at L1
        rw [q2] at L2
        have CP := Lib.hid (fun W (B : Below w.heap.size w W) => l8Copy_any d A d.forks.length c W (Mem.rd_on h1 B) (by omega))
        have gA : fitA d op a b := ⟨hop.1, by omega, q1, fun _ => q2, hop.2.2, fun h => by omega, fun h => by omega⟩
        have CO := Lib.hid (fun A2 c2 base W ho hb => l8Do_any op hop.2.1 13 d A2 c2 a b base W ho hb ok gA (rk_13 ok gA))
        have hfew : 0 ≤ (runF op 13 d a b).2 → (runF op 13 d a b).1.forks.length ≤ 2000 := fun h => (run_ok ok gA (rk_13 ok gA) h).2.1.few
        clear gA
        generalize runF op 13 d a b = R at *
        have HW := Lib.hid hfew
        clear hfew
        obtain ⟨v, fs⟩ := d
        obtain ⟨⟨rm, rg⟩, re⟩ := R
        dsimp only at *
        clear hE k1 h1 ok q1 q2
        go_enter Try.func63, Try.ntmps63
        go_wp2_with fail
        refine (CK.out _ B0).mono ?_
        rintro e w1 ⟨rfl, b1⟩
        obtain ⟨B1, kb1, kr1⟩ := BX.out _ b1
        have x0 := kb1.cell 0
        have x1 := kb1.cell 1
        have f0 := kr1.frozen 0
        have f1 := kr1.frozen 1
        have y0 := kr1.cell 0
        have y1 := kr1.cell 1
        simp only [List.getElem?_cons_zero, List.getElem?_cons_succ] at x0 x1 y0 y1
        go_wp2_with fail
        refine (L1.out _ B1).mono ?_
        rintro e w2 ⟨rfl, c2⟩
        have b2 := b1.trans (c2.mono b1.size)
        obtain ⟨B2, kb2, kr2⟩ := BX.out _ b2
        have x0 := kb2.cell 0
        have x1 := kb2.cell 1
        have f0 := kr2.frozen 0
        have f1 := kr2.frozen 1
        have y0 := kr2.cell 0
        have y1 := kr2.cell 1
        simp only [List.getElem?_cons_zero, List.getElem?_cons_succ] at x0 x1 y0 y1
        go_wp2_with fail
        refine (L2.out _ B2).mono ?_
        rintro e w3 ⟨rfl, c3⟩
        have b3 := b2.trans (c3.mono b2.size)
        obtain ⟨B3, kb3, kr3⟩ := BX.out _ b3
        have x0 := kb3.cell 0
        have x1 := kb3.cell 1
        have f0 := kr3.frozen 0
        have f1 := kr3.frozen 1
        have y0 := kr3.cell 0
        have y1 := kr3.cell 1
        simp only [List.getElem?_cons_zero, List.getElem?_cons_succ] at x0 x1 y0 y1
        go_wp2_with fail
        refine (CP.out _ B3).mono ?_
        rintro e w6 ⟨A6, c6, rfl, ho6, c6b⟩
        have b6 := b3.trans (c6b.mono b3.size)
        go_wp2_with fail
        refine (CO.out A6 c6 w3.heap.size w6 ho6 c6b.size).mono ?_
        rintro e w7 ⟨on7, _, hc7⟩
        have d7 : Below w3.heap.size w6 w7 := on7.below c6b.size fun x hx => (ho6.lt x (mem_bl.1 hx)).1
        have b7 := b6.trans (d7.mono b3.size)
        obtain ⟨B7, kb7, kr7⟩ := BX.out _ b7
        have x0 := kb7.cell 0
        have x1 := kb7.cell 1
        have f0 := kr7.frozen 0
        have f1 := kr7.frozen 1
        have y0 := kr7.cell 0
        have y1 := kr7.cell 1
        simp only [List.getElem?_cons_zero, List.getElem?_cons_succ] at x0 x1 y0 y1
        rcases hc7 with ⟨hre, m7, A7, n7, c7, rfl⟩ | ⟨hre, A7, c7, rfl, ho7, _⟩
        · dsimp only at hre
          have hT : toldD (⟨rm, rg⟩, re) = (⟨0, []⟩, -1) := if_pos hre
          have HT := Lib.hid hT
          clear hT
          go_wp2_with fail
          refine (l8Told_no m7 A7 n7 c7 (-1) _ (by decide)).mono ?_
          rintro e w9 ⟨rfl, d9⟩
          have b9 := b7.trans ((below_call d9).mono b7.size)
          obtain ⟨B9, kb9, kr9⟩ := BX.out _ b9
          have x0 := kb9.cell 0
          have x1 := kb9.cell 1
          have f0 := kr9.frozen 0
          have f1 := kr9.frozen 1
          have y0 := kr9.cell 0
          have y1 := kr9.cell 1
          simp only [List.getElem?_cons_zero, List.getElem?_cons_succ] at x0 x1 y0 y1
          go_wp2
          have K2 := (kr9.set 0 (.int .i64 0)).set 1 (.slice none 0 0)
          have b8 := (B9.setCell (p := ⟨w.heap.size + 1, 0, none⟩) (Nat.le_succ _) (.int .i64 0)).setCell (p := ⟨w.heap.size + 1, 1, none⟩) (Nat.le_succ _) (.slice none 0 0)
          generalize (w9.setCell ⟨w.heap.size + 1, 0, none⟩ (.int .i64 0)).setCell ⟨w.heap.size + 1, 1, none⟩ (.slice none 0 0) = w8 at K2 b8 ⊢
          have r0 := K2.cell 0
          have r1 := K2.cell 1
          simp only [List.set_cons_zero, List.set_cons_succ, List.getElem?_cons_zero, List.getElem?_cons_succ] at r0 r1
          exact bodyPost_ret (v := .tuple #[.agg #[.int .i64 0, .slice none 0 0], .int .i64 (-1)]) (by simp [results, Try.results63, go_sem, r0, r1]) rfl (by rw [HT.out]; exact gives_dg_nil b8)
        · dsimp only at hre ho7
          have hT : toldD (⟨rm, rg⟩, re) = (⟨rm, rg⟩, re) := if_neg (by show ¬ re < 0; omega)
          have HT := Lib.hid hT
          clear hT
          have O7 := Lib.hid ho7
          clear ho7
          go_wp2_with fail
          refine (l8Told_yes rm A7 rg.length c7 re _ (by omega)).mono ?_
          rintro e w9 ⟨rfl, d9⟩
          have d9 := below_call d9
          have b9 := b7.trans (d9.mono b7.size)
          obtain ⟨B9, kb9, kr9⟩ := BX.out _ b9
          have x0 := kb9.cell 0
          have x1 := kb9.cell 1
          have f0 := kr9.frozen 0
          have f1 := kr9.frozen 1
          have y0 := kr9.cell 0
          have y1 := kr9.cell 1
          simp only [List.getElem?_cons_zero, List.getElem?_cons_succ] at x0 x1 y0 y1
          have hz9 : w.heap.size + 1 < w3.heap.size := kr3.lt
          have o9 := own_below O7.out d9
          have n9 : (Value.slice A7 (rg).length c7).ownBlock ≠ some (w.heap.size + 1) := fun e => by have := (o9.lt _ e).1; (try simp only [World.size_alloc] at this); omega
          go_wp2
          have K2 := (kr9.set 0 (.int .i64 rm)).set 1 (.slice A7 (rg).length c7)
          have o8 := own_away (own_away o9 (p := ⟨w.heap.size + 1, 0, none⟩) (.int .i64 rm) n9) (p := ⟨w.heap.size + 1, 1, none⟩) (.slice A7 (rg).length c7) n9
          have b8 := (B9.setCell (p := ⟨w.heap.size + 1, 0, none⟩) (Nat.le_succ _) (.int .i64 rm)).setCell (p := ⟨w.heap.size + 1, 1, none⟩) (Nat.le_succ _) (.slice A7 (rg).length c7)
          generalize (w9.setCell ⟨w.heap.size + 1, 0, none⟩ (.int .i64 rm)).setCell ⟨w.heap.size + 1, 1, none⟩ (.slice A7 (rg).length c7) = w8 at K2 b8 o8 ⊢
          have r0 := K2.cell 0
          have r1 := K2.cell 1
          simp only [List.set_cons_zero, List.set_cons_succ, List.getElem?_cons_zero, List.getElem?_cons_succ] at r0 r1
          obtain ⟨fp, q1, q2, q3⟩ := own_flat (α := Fk) o8 rfl (by unfold maxLen; have := HW.out hre; omega)
          exact bodyPost_ret (v := .tuple #[.agg #[.int .i64 rm, .slice A7 (rg).length c7], .int .i64 re]) (by simp [results, Try.results63, go_sem, r0, r1]) rfl (by rw [HT.out]; exact ⟨A7, _, c7, fp, rfl, q1, q2, fun x hx => by have := q3 x hx; have := kb3.lt; omega, b8⟩)
noncomputable def dgNotB (d : Dg) (nn : Int) : Dg × Int := if (dgB d && isP d nn) = true then toldD (runF 0 13 d nn 1) else (⟨0, []⟩, -1)
noncomputable def dgAndB (d : Dg) (a b : Int) : Dg × Int := if (dgB d && isP d a && isP d b) = true then toldD (runF 1 13 d a b) else (⟨0, []⟩, -1)
noncomputable def dgOrB (d : Dg) (a b : Int) : Dg × Int := if (dgB d && isP d a && isP d b) = true then toldD (runF 2 13 d a b) else (⟨0, []⟩, -1)
theorem twoB_not (d : Dg) (nn : Int) : twoB d 0 nn 1 = dgNotB d nn := by
  unfold twoB dgNotB
  rw [show isP d 1 = true from isP_iff.2 (by omega), Bool.and_true]

set_option maxRecDepth 100000 in
theorem dgNot_spec (d : Dg) (nn : Int) (A : Option Addr) (n c : Nat) (w : World) (h1 : Mem.rd w w.heap.size [.slice A n c] d.forks) :
    Calls Try.prog 26 #[.agg #[.int .i64 d.vars, .slice A n c], .int .i64 nn] w (GivesDgN w (dgNotB d nn).1 (dgNotB d nn).2) := by
  have TW := Lib.hid (fun W (B : Below w.heap.size w W) => l8Two_any d 0 nn 1 ⟨by decide, by decide, fun h => by first | rfl | cases h⟩ A n c W (Mem.rd_on h1 B))
  rw [twoB_not d nn] at TW
  have B0 : Below w.heap.size w ((w.alloc (.cells #[.int .i64 d.vars, .slice A n c] 29)).alloc (.cells #[.int .i64 0, .slice none 0 0] 29)) := (below_alloc w _).alloc (by simp) _
  have BX := Lib.hid (two_boxes w #[.int .i64 d.vars, .slice A n c] #[.int .i64 0, .slice none 0 0] 29 29)
  have TW0 := TW.out _ B0
  generalize dgNotB d nn = R at *
  obtain ⟨⟨rm, rg⟩, re⟩ := R
  obtain ⟨v, fs⟩ := d
  dsimp only at *
  have eo : omOf 0 = 2 := by decide
  rw [eo] at TW0
  clear h1 TW eo
  go_enter Try.func26, Try.ntmps26
  go_wp2_with fail
  refine TW0.mono ?_
  rintro e w1 ⟨A1, n1, c1, f1, rfl, o1, nd1, lo1, b1⟩
  obtain ⟨B1, kb1, kr1⟩ := BX.out _ b1
  have f0 := kr1.frozen 0
  have f1_ := kr1.frozen 1
  have y0 := kr1.cell 0
  have y1 := kr1.cell 1
  simp only [List.getElem?_cons_zero, List.getElem?_cons_succ] at y0 y1
  simp only [World.size_alloc] at lo1
  have KR := Lib.hid kr1
  have O1 := Lib.hid o1
  clear kr1 o1
  go_wp2
  have K2 := (KR.out.set 0 (.int .i64 rm)).set 1 (.slice A1 n1 c1)
  have b8 := (B1.setCell (p := ⟨w.heap.size + 1, 0, none⟩) (Nat.le_succ _) (.int .i64 rm)).setCell (p := ⟨w.heap.size + 1, 1, none⟩) (Nat.le_succ _) (.slice A1 n1 c1)
  have o8 : Mem.own ((w1.setCell ⟨w.heap.size + 1, 0, none⟩ (.int .i64 rm)).setCell ⟨w.heap.size + 1, 1, none⟩ (.slice A1 n1 c1)) f1 [.slice A1 n1 c1] rg := Mem.own_keep O1.out fun b hb => by
    have := lo1 b hb
    rw [setCell_heap _ _ _ (show b ≠ w.heap.size + 1 by omega), setCell_heap _ _ _ (show b ≠ w.heap.size + 1 by omega)]
  generalize (w1.setCell ⟨w.heap.size + 1, 0, none⟩ (.int .i64 rm)).setCell ⟨w.heap.size + 1, 1, none⟩ (.slice A1 n1 c1) = w8 at K2 b8 o8 ⊢
  have r0 := K2.cell 0
  have r1 := K2.cell 1
  simp only [List.set_cons_zero, List.set_cons_succ, List.getElem?_cons_zero, List.getElem?_cons_succ] at r0 r1
  exact bodyPost_ret (v := .tuple #[.agg #[.int .i64 rm, .slice A1 n1 c1], .int .i64 re]) (by simp [results, Try.results26, go_sem, r0, r1]) rfl ⟨A1, n1, c1, f1, rfl, o8, nd1, fun b hb => by have := lo1 b hb; omega, b8⟩

set_option maxRecDepth 100000 in
theorem dgAnd_spec (d : Dg) (a b : Int) (A : Option Addr) (n c : Nat) (w : World) (h1 : Mem.rd w w.heap.size [.slice A n c] d.forks) :
    Calls Try.prog 28 #[.agg #[.int .i64 d.vars, .slice A n c], .int .i64 a, .int .i64 b] w (GivesDgN w (dgAndB d a b).1 (dgAndB d a b).2) := by
  have TW := Lib.hid (fun W (B : Below w.heap.size w W) => l8Two_any d 1 a b ⟨by decide, by decide, fun h => by first | rfl | cases h⟩ A n c W (Mem.rd_on h1 B))
  rw [show twoB d 1 a b = dgAndB d a b from rfl] at TW
  have B0 : Below w.heap.size w ((w.alloc (.cells #[.int .i64 d.vars, .slice A n c] 29)).alloc (.cells #[.int .i64 0, .slice none 0 0] 29)) := (below_alloc w _).alloc (by simp) _
  have BX := Lib.hid (two_boxes w #[.int .i64 d.vars, .slice A n c] #[.int .i64 0, .slice none 0 0] 29 29)
  have TW0 := TW.out _ B0
  generalize dgAndB d a b = R at *
  obtain ⟨⟨rm, rg⟩, re⟩ := R
  obtain ⟨v, fs⟩ := d
  dsimp only at *
  have eo : omOf 1 = 0 := by decide
  rw [eo] at TW0
  clear h1 TW eo
  go_enter Try.func28, Try.ntmps28
  go_wp2_with fail
  refine TW0.mono ?_
  rintro e w1 ⟨A1, n1, c1, f1, rfl, o1, nd1, lo1, b1⟩
  obtain ⟨B1, kb1, kr1⟩ := BX.out _ b1
  have f0 := kr1.frozen 0
  have f1_ := kr1.frozen 1
  have y0 := kr1.cell 0
  have y1 := kr1.cell 1
  simp only [List.getElem?_cons_zero, List.getElem?_cons_succ] at y0 y1
  simp only [World.size_alloc] at lo1
  have KR := Lib.hid kr1
  have O1 := Lib.hid o1
  clear kr1 o1
  go_wp2
  have K2 := (KR.out.set 0 (.int .i64 rm)).set 1 (.slice A1 n1 c1)
  have b8 := (B1.setCell (p := ⟨w.heap.size + 1, 0, none⟩) (Nat.le_succ _) (.int .i64 rm)).setCell (p := ⟨w.heap.size + 1, 1, none⟩) (Nat.le_succ _) (.slice A1 n1 c1)
  have o8 : Mem.own ((w1.setCell ⟨w.heap.size + 1, 0, none⟩ (.int .i64 rm)).setCell ⟨w.heap.size + 1, 1, none⟩ (.slice A1 n1 c1)) f1 [.slice A1 n1 c1] rg := Mem.own_keep O1.out fun b hb => by
    have := lo1 b hb
    rw [setCell_heap _ _ _ (show b ≠ w.heap.size + 1 by omega), setCell_heap _ _ _ (show b ≠ w.heap.size + 1 by omega)]
  generalize (w1.setCell ⟨w.heap.size + 1, 0, none⟩ (.int .i64 rm)).setCell ⟨w.heap.size + 1, 1, none⟩ (.slice A1 n1 c1) = w8 at K2 b8 o8 ⊢
  have r0 := K2.cell 0
  have r1 := K2.cell 1
  simp only [List.set_cons_zero, List.set_cons_succ, List.getElem?_cons_zero, List.getElem?_cons_succ] at r0 r1
  exact bodyPost_ret (v := .tuple #[.agg #[.int .i64 rm, .slice A1 n1 c1], .int .i64 re]) (by simp [results, Try.results28, go_sem, r0, r1]) rfl ⟨A1, n1, c1, f1, rfl, o8, nd1, fun b hb => by have := lo1 b hb; omega, b8⟩

set_option maxRecDepth 100000 in
theorem dgOr_spec (d : Dg) (a b : Int) (A : Option Addr) (n c : Nat) (w : World) (h1 : Mem.rd w w.heap.size [.slice A n c] d.forks) :
    Calls Try.prog 30 #[.agg #[.int .i64 d.vars, .slice A n c], .int .i64 a, .int .i64 b] w (GivesDgN w (dgOrB d a b).1 (dgOrB d a b).2) := by
  have TW := Lib.hid (fun W (B : Below w.heap.size w W) => l8Two_any d 2 a b ⟨by decide, by decide, fun h => by first | rfl | cases h⟩ A n c W (Mem.rd_on h1 B))
  rw [show twoB d 2 a b = dgOrB d a b from rfl] at TW
  have B0 : Below w.heap.size w ((w.alloc (.cells #[.int .i64 d.vars, .slice A n c] 29)).alloc (.cells #[.int .i64 0, .slice none 0 0] 29)) := (below_alloc w _).alloc (by simp) _
  have BX := Lib.hid (two_boxes w #[.int .i64 d.vars, .slice A n c] #[.int .i64 0, .slice none 0 0] 29 29)
  have TW0 := TW.out _ B0
  generalize dgOrB d a b = R at *
  obtain ⟨⟨rm, rg⟩, re⟩ := R
  obtain ⟨v, fs⟩ := d
  dsimp only at *
  have eo : omOf 2 = 1 := by decide
  rw [eo] at TW0
  clear h1 TW eo
  go_enter Try.func30, Try.ntmps30
  go_wp2_with fail
  refine TW0.mono ?_
  rintro e w1 ⟨A1, n1, c1, f1, rfl, o1, nd1, lo1, b1⟩
  obtain ⟨B1, kb1, kr1⟩ := BX.out _ b1
  have f0 := kr1.frozen 0
  have f1_ := kr1.frozen 1
  have y0 := kr1.cell 0
  have y1 := kr1.cell 1
  simp only [List.getElem?_cons_zero, List.getElem?_cons_succ] at y0 y1
  simp only [World.size_alloc] at lo1
  have KR := Lib.hid kr1
  have O1 := Lib.hid o1
  clear kr1 o1
  go_wp2
  have K2 := (KR.out.set 0 (.int .i64 rm)).set 1 (.slice A1 n1 c1)
  have b8 := (B1.setCell (p := ⟨w.heap.size + 1, 0, none⟩) (Nat.le_succ _) (.int .i64 rm)).setCell (p := ⟨w.heap.size + 1, 1, none⟩) (Nat.le_succ _) (.slice A1 n1 c1)
  have o8 : Mem.own ((w1.setCell ⟨w.heap.size + 1, 0, none⟩ (.int .i64 rm)).setCell ⟨w.heap.size + 1, 1, none⟩ (.slice A1 n1 c1)) f1 [.slice A1 n1 c1] rg := Mem.own_keep O1.out fun b hb => by
    have := lo1 b hb
    rw [setCell_heap _ _ _ (show b ≠ w.heap.size + 1 by omega), setCell_heap _ _ _ (show b ≠ w.heap.size + 1 by omega)]
  generalize (w1.setCell ⟨w.heap.size + 1, 0, none⟩ (.int .i64 rm)).setCell ⟨w.heap.size + 1, 1, none⟩ (.slice A1 n1 c1) = w8 at K2 b8 o8 ⊢
  have r0 := K2.cell 0
  have r1 := K2.cell 1
  simp only [List.set_cons_zero, List.set_cons_succ, List.getElem?_cons_zero, List.getElem?_cons_succ] at r0 r1
  exact bodyPost_ret (v := .tuple #[.agg #[.int .i64 rm, .slice A1 n1 c1], .int .i64 re]) (by simp [results, Try.results30, go_sem, r0, r1]) rfl ⟨A1, n1, c1, f1, rfl, o8, nd1, fun b hb => by have := lo1 b hb; omega, b8⟩
theorem not_run (d : Dg) (nn : Int) (full : Bool) (m base g : Nat) (w : World) (hM : MkD w base g d full m) (hb : base ≤ w.heap.size) (gA : fitA d 0 nn 1) (hm : m + 3 ^ 13 ≤ 100000000) :
    Calls Try.prog 64 #[.pointer (some ⟨g, 0, none⟩), .int .i64 nn] w (GivesRun base g d 0 nn 1 full (m + 3 ^ 13) w) := by
  have CM := Lib.hid (combine_any 13 d 0 nn 1 full m base g w hM hb gA (by decide) (rk_13 hM.ok gA) hm)
  clear hM gA hm
  go_enter Try.func64, Try.ntmps64
  go_wp2_with fail
  refine CM.out.mono ?_
  rintro e w1 ⟨x, d', full', rfl, h1, h2, h3, h4⟩
  go_wp2
  go_ret
  exact ⟨x, d', full', rfl, h1, h2, h3, h4⟩
theorem and_run (d : Dg) (a b : Int) (full : Bool) (m base g : Nat) (w : World) (hM : MkD w base g d full m) (hb : base ≤ w.heap.size) (gA : fitA d 1 a b) (hm : m + 3 ^ 13 ≤ 100000000) :
    Calls Try.prog 65 #[.pointer (some ⟨g, 0, none⟩), .int .i64 a, .int .i64 b] w (GivesRun base g d 1 a b full (m + 3 ^ 13) w) := by
  have CM := Lib.hid (combine_any 13 d 1 a b full m base g w hM hb gA (by decide) (rk_13 hM.ok gA) hm)
  clear hM gA hm
  go_enter Try.func65, Try.ntmps65
  go_wp2_with fail
  refine CM.out.mono ?_
  rintro e w1 ⟨x, d', full', rfl, h1, h2, h3, h4⟩
  go_wp2
  go_ret
  exact ⟨x, d', full', rfl, h1, h2, h3, h4⟩
theorem or_run (d : Dg) (a b : Int) (full : Bool) (m base g : Nat) (w : World) (hM : MkD w base g d full m) (hb : base ≤ w.heap.size) (gA : fitA d 2 a b) (hm : m + 3 ^ 13 ≤ 100000000) :
    Calls Try.prog 66 #[.pointer (some ⟨g, 0, none⟩), .int .i64 a, .int .i64 b] w (GivesRun base g d 2 a b full (m + 3 ^ 13) w) := by
  have CM := Lib.hid (combine_any 13 d 2 a b full m base g w hM hb gA (by decide) (rk_13 hM.ok gA) hm)
  clear hM gA hm
  go_enter Try.func66, Try.ntmps66
  go_wp2_with fail
  refine CM.out.mono ?_
  rintro e w1 ⟨x, d', full', rfl, h1, h2, h3, h4⟩
  go_wp2
  go_ret
  exact ⟨x, d', full', rfl, h1, h2, h3, h4⟩
set_option maxRecDepth 100000 in
set_option maxHeartbeats 4000000 in
theorem dgNot_impl (d : Dg) (nn : Int) (A : Option Addr) (n c : Nat) (w : World) (h1 : Mem.rd w w.heap.size [.slice A n c] d.forks) :
    Calls Try.prog 27 #[.agg #[.int .i64 d.vars, .slice A n c], .int .i64 nn] w (GivesDgN w (dgNotB d nn).1 (dgNotB d nn).2) := by
  obtain rfl : d.forks.length = n := rd_len h1
  have MK := Lib.hid (fun W (B : Below w.heap.size w W) => makerD_any d [nn] A d.forks.length c (some ⟨W.heap.size, 0, none⟩) 1 1 (W.alloc (.cells #[.int .i64 nn] 3)) (Mem.rd_on_alloc (Mem.rd_on h1 B) _) (rd_newD1 W nn))
  have BX := Lib.hid (two_boxes w #[.int .i64 d.vars, .slice A d.forks.length c] #[.int .i64 0, .slice none 0 0] 29 29)
  have B0 : Below w.heap.size w ((w.alloc (.cells #[.int .i64 d.vars, .slice A d.forks.length c] 29)).alloc (.cells #[.int .i64 0, .slice none 0 0] 29)) := (below_alloc w _).alloc (by simp) _
  have HNO : Hid ((dgB d && areP d [nn]) = false → dgNotB d nn = (⟨0, []⟩, -1)) := Lib.hid (fun hq => if_neg (fun h => by
    simp only [Bool.and_eq_true] at h
    have hq2 : (dgB d && areP d [nn]) = true := by simp only [areP, List.all_cons, List.all_nil, Bool.and_true, Bool.and_eq_true]; simp [h]
    rw [hq] at hq2; cases hq2))
  have HYES : Hid ((dgB d && areP d [nn]) = true → dgNotB d nn = toldD (runF 0 13 d nn 1)) := Lib.hid (fun hq => if_pos (by
    simp only [areP, List.all_cons, List.all_nil, Bool.and_true, Bool.and_eq_true] at hq ⊢
    simp [hq]))
  have CO : Hid ((dgB d && areP d [nn]) = true → ∀ base g W, MkD W base g d false 0 → base ≤ W.heap.size → Calls Try.prog 64 #[.pointer (some ⟨g, 0, none⟩), .int .i64 nn] W (GivesRun base g d 0 nn 1 false (0 + 3 ^ 13) W)) := Lib.hid (fun hq base g W hM hb =>
    not_run d nn false 0 base g W hM hb ⟨by decide, by decide, (show isP d nn = true by simp only [areP, List.all_cons, List.all_nil, Bool.and_true, Bool.and_eq_true] at hq; simp [hq]), fun _ => (isP_iff.2 (by omega)), fun h => (by first | rfl | cases h), fun h => (by omega), fun h => (by omega)⟩ (by decide))
  generalize dgNotB d nn = R at *
  obtain ⟨v, fs⟩ := d
  dsimp only [Fk.u] at *
  clear h1
  have MK0 := MK.out _ B0
  simp only [World.size_alloc] at MK0
  go_enter Try.func27, Try.ntmps27
  go_wp2_with fail
  refine MK0.mono ?_
  rintro e w1 (⟨hq, rfl, b1'⟩ | ⟨hq, g, rfl, hm1, b1'⟩)
  · have b1 := below_call b1'
    have HT := Lib.hid (HNO.out hq)
    clear hq
    obtain ⟨B1, kb1, kr1⟩ := BX.out _ b1
    have x0 := kb1.cell 0
    have x1 := kb1.cell 1
    have f0 := kr1.frozen 0
    have f1 := kr1.frozen 1
    have y0 := kr1.cell 0
    have y1 := kr1.cell 1
    simp only [List.getElem?_cons_zero, List.getElem?_cons_succ] at x0 x1 y0 y1
    go_wp2
    have K2 := (kr1.set 0 (.int .i64 0)).set 1 (.slice none 0 0)
    have b8 := (B1.setCell (p := ⟨w.heap.size + 1, 0, none⟩) (Nat.le_succ _) (.int .i64 0)).setCell (p := ⟨w.heap.size + 1, 1, none⟩) (Nat.le_succ _) (.slice none 0 0)
    generalize (w1.setCell ⟨w.heap.size + 1, 0, none⟩ (.int .i64 0)).setCell ⟨w.heap.size + 1, 1, none⟩ (.slice none 0 0) = w8 at K2 b8 ⊢
    have r0 := K2.cell 0
    have r1 := K2.cell 1
    simp only [List.set_cons_zero, List.set_cons_succ, List.getElem?_cons_zero, List.getElem?_cons_succ] at r0 r1
    exact bodyPost_ret (v := .tuple #[.agg #[.int .i64 0, .slice none 0 0], .int .i64 (-1)]) (by simp [results, Try.results27, go_sem, r0, r1]) rfl (by rw [HT.out]; exact gives_dg_nil b8)
  · have hn0 := hm1.ok.few
    dsimp only at hn0
    have hn : fs.length ≤ 100000 := by omega
    have b1 := below_call b1'
    obtain ⟨B1, kb1, kr1⟩ := BX.out _ b1
    have x0 := kb1.cell 0
    have x1 := kb1.cell 1
    have f0 := kr1.frozen 0
    have f1 := kr1.frozen 1
    have y0 := kr1.cell 0
    have y1 := kr1.cell 1
    simp only [List.getElem?_cons_zero, List.getElem?_cons_succ] at x0 x1 y0 y1
    have HT0 := Lib.hid (HYES.out hq)
    have HCO := Lib.hid (CO.out hq)
    clear hq
    go_wp2_with fail
    refine (HCO.out _ g _ hm1 b1'.size).mono ?_
    rintro e w7 ⟨x7, ⟨rm, rg⟩, full7, rfl, hm7, c7, P7, _⟩
    have b7 := b1.trans (c7.mono (by first | exact Nat.le_refl _ | (simp only [World.size_alloc]; omega)))
    obtain ⟨B7, kb7, kr7⟩ := BX.out _ b7
    have x0 := kb7.cell 0
    have x1 := kb7.cell 1
    have f0 := kr7.frozen 0
    have f1 := kr7.frozen 1
    have y0 := kr7.cell 0
    have y1 := kr7.cell 1
    simp only [List.getElem?_cons_zero, List.getElem?_cons_succ] at x0 x1 y0 y1
    cases full7
    · obtain ⟨_, hcore⟩ := P7.new rfl
      have hx7 := (isP_iff.1 P7.isP).1
      have HT := Lib.hid (HT0.out.trans ((congrArg toldD hcore).trans (if_neg (by show ¬ x7 < 0; omega))))
      have few7 := hm7.ok.few
      clear P7 hcore HT0 HCO
      dsimp only at few7
      go_wp2_with fail
      refine (toldP_yes _ x7 _ g _ _ hm7).mono ?_
      rintro e w9 ⟨A7, c7, rfl, o9, d9⟩
      dsimp only at o9
      have b9 := b7.trans (d9.mono b7.size)
      obtain ⟨B9, kb9, kr9⟩ := BX.out _ b9
      have x0 := kb9.cell 0
      have x1 := kb9.cell 1
      have f0 := kr9.frozen 0
      have f1 := kr9.frozen 1
      have y0 := kr9.cell 0
      have y1 := kr9.cell 1
      simp only [List.getElem?_cons_zero, List.getElem?_cons_succ] at x0 x1 y0 y1
      have n9 : (Value.slice A7 (rg).length c7).ownBlock ≠ some (w.heap.size + 1) := fun e => by have := (o9.lt _ e).1; (try simp only [World.size_alloc] at this); omega
      go_wp2
      have K2 := (kr9.set 0 (.int .i64 rm)).set 1 (.slice A7 (rg).length c7)
      have o8 := own_away (own_away o9 (p := ⟨w.heap.size + 1, 0, none⟩) (.int .i64 rm) n9) (p := ⟨w.heap.size + 1, 1, none⟩) (.slice A7 (rg).length c7) n9
      have b8 := (B9.setCell (p := ⟨w.heap.size + 1, 0, none⟩) (Nat.le_succ _) (.int .i64 rm)).setCell (p := ⟨w.heap.size + 1, 1, none⟩) (Nat.le_succ _) (.slice A7 (rg).length c7)
      generalize (w9.setCell ⟨w.heap.size + 1, 0, none⟩ (.int .i64 rm)).setCell ⟨w.heap.size + 1, 1, none⟩ (.slice A7 (rg).length c7) = w8 at K2 b8 o8 ⊢
      have r0 := K2.cell 0
      have r1 := K2.cell 1
      simp only [List.set_cons_zero, List.set_cons_succ, List.getElem?_cons_zero, List.getElem?_cons_succ] at r0 r1
      obtain ⟨fp, q1, q2, q3⟩ := own_flat (α := Fk) o8 rfl (by unfold maxLen; have := few7; omega)
      exact bodyPost_ret (v := .tuple #[.agg #[.int .i64 rm, .slice A7 (rg).length c7], .int .i64 x7]) (by simp [results, Try.results27, go_sem, r0, r1]) rfl (by rw [HT.out]; exact ⟨A7, _, c7, fp, rfl, q1, q2, fun x hx => by have := q3 x hx; have := B0.size; simp only [World.size_alloc] at *; omega, b8⟩)
    · have HT := Lib.hid (HT0.out.trans (if_pos (by
        rcases P7.no rfl with q | q
        · cases q
        · exact q)))
      clear P7 HT0 HCO
      go_wp2_with fail
      refine (toldP_no _ x7 _ g _ _ hm7).mono ?_
      rintro e w9 ⟨rfl, d9⟩
      have b9 := b7.trans (d9.mono b7.size)
      obtain ⟨B9, kb9, kr9⟩ := BX.out _ b9
      have x0 := kb9.cell 0
      have x1 := kb9.cell 1
      have f0 := kr9.frozen 0
      have f1 := kr9.frozen 1
      have y0 := kr9.cell 0
      have y1 := kr9.cell 1
      simp only [List.getElem?_cons_zero, List.getElem?_cons_succ] at x0 x1 y0 y1
      go_wp2
      have K2 := (kr9.set 0 (.int .i64 0)).set 1 (.slice none 0 0)
      have b8 := (B9.setCell (p := ⟨w.heap.size + 1, 0, none⟩) (Nat.le_succ _) (.int .i64 0)).setCell (p := ⟨w.heap.size + 1, 1, none⟩) (Nat.le_succ _) (.slice none 0 0)
      generalize (w9.setCell ⟨w.heap.size + 1, 0, none⟩ (.int .i64 0)).setCell ⟨w.heap.size + 1, 1, none⟩ (.slice none 0 0) = w8 at K2 b8 ⊢
      have r0 := K2.cell 0
      have r1 := K2.cell 1
      simp only [List.set_cons_zero, List.set_cons_succ, List.getElem?_cons_zero, List.getElem?_cons_succ] at r0 r1
      exact bodyPost_ret (v := .tuple #[.agg #[.int .i64 0, .slice none 0 0], .int .i64 (-1)]) (by simp [results, Try.results27, go_sem, r0, r1]) rfl (by rw [HT.out]; exact gives_dg_nil b8)
set_option maxRecDepth 100000 in
set_option maxHeartbeats 4000000 in
theorem dgAnd_impl (d : Dg) (a b : Int) (A : Option Addr) (n c : Nat) (w : World) (h1 : Mem.rd w w.heap.size [.slice A n c] d.forks) :
    Calls Try.prog 29 #[.agg #[.int .i64 d.vars, .slice A n c], .int .i64 a, .int .i64 b] w (GivesDgN w (dgAndB d a b).1 (dgAndB d a b).2) := by
  obtain rfl : d.forks.length = n := rd_len h1
  have MK := Lib.hid (fun W (B : Below w.heap.size w W) => makerD_any d [a, b] A d.forks.length c (some ⟨W.heap.size, 0, none⟩) 2 2 (W.alloc (.cells #[.int .i64 a, .int .i64 b] 3)) (Mem.rd_on_alloc (Mem.rd_on h1 B) _) (rd_newD2 W a b))
  have BX := Lib.hid (two_boxes w #[.int .i64 d.vars, .slice A d.forks.length c] #[.int .i64 0, .slice none 0 0] 29 29)
  have B0 : Below w.heap.size w ((w.alloc (.cells #[.int .i64 d.vars, .slice A d.forks.length c] 29)).alloc (.cells #[.int .i64 0, .slice none 0 0] 29)) := (below_alloc w _).alloc (by simp) _
  have HNO : Hid ((dgB d && areP d [a, b]) = false → dgAndB d a b = (⟨0, []⟩, -1)) := Lib.hid (fun hq => if_neg (fun h => by
    simp only [Bool.and_eq_true] at h
    have hq2 : (dgB d && areP d [a, b]) = true := by simp only [areP, List.all_cons, List.all_nil, Bool.and_true, Bool.and_eq_true]; simp [h]
    rw [hq] at hq2; cases hq2))
  have HYES : Hid ((dgB d && areP d [a, b]) = true → dgAndB d a b = toldD (runF 1 13 d a b)) := Lib.hid (fun hq => if_pos (by
    simp only [areP, List.all_cons, List.all_nil, Bool.and_true, Bool.and_eq_true] at hq ⊢
    simp [hq]))
  have CO : Hid ((dgB d && areP d [a, b]) = true → ∀ base g W, MkD W base g d false 0 → base ≤ W.heap.size → Calls Try.prog 65 #[.pointer (some ⟨g, 0, none⟩), .int .i64 a, .int .i64 b] W (GivesRun base g d 1 a b false (0 + 3 ^ 13) W)) := Lib.hid (fun hq base g W hM hb =>
    and_run d a b false 0 base g W hM hb ⟨by decide, by decide, (show isP d a = true by simp only [areP, List.all_cons, List.all_nil, Bool.and_true, Bool.and_eq_true] at hq; simp [hq]), fun _ => (show isP d b = true by simp only [areP, List.all_cons, List.all_nil, Bool.and_true, Bool.and_eq_true] at hq; simp [hq]), fun h => (by first | rfl | cases h), fun h => (by omega), fun h => (by omega)⟩ (by decide))
  generalize dgAndB d a b = R at *
  obtain ⟨v, fs⟩ := d
  dsimp only [Fk.u] at *
  clear h1
  have MK0 := MK.out _ B0
  simp only [World.size_alloc] at MK0
  go_enter Try.func29, Try.ntmps29
  go_wp2_with fail
  refine MK0.mono ?_
  rintro e w1 (⟨hq, rfl, b1'⟩ | ⟨hq, g, rfl, hm1, b1'⟩)
  · have b1 := below_call b1'
    have HT := Lib.hid (HNO.out hq)
    clear hq
    obtain ⟨B1, kb1, kr1⟩ := BX.out _ b1
    have x0 := kb1.cell 0
    have x1 := kb1.cell 1
    have f0 := kr1.frozen 0
    have f1 := kr1.frozen 1
    have y0 := kr1.cell 0
    have y1 := kr1.cell 1
    simp only [List.getElem?_cons_zero, List.getElem?_cons_succ] at x0 x1 y0 y1
    go_wp2
    have K2 := (kr1.set 0 (.int .i64 0)).set 1 (.slice none 0 0)
    have b8 := (B1.setCell (p := ⟨w.heap.size + 1, 0, none⟩) (Nat.le_succ _) (.int .i64 0)).setCell (p := ⟨w.heap.size + 1, 1, none⟩) (Nat.le_succ _) (.slice none 0 0)
    generalize (w1.setCell ⟨w.heap.size + 1, 0, none⟩ (.int .i64 0)).setCell ⟨w.heap.size + 1, 1, none⟩ (.slice none 0 0) = w8 at K2 b8 ⊢
    have r0 := K2.cell 0
    have r1 := K2.cell 1
    simp only [List.set_cons_zero, List.set_cons_succ, List.getElem?_cons_zero, List.getElem?_cons_succ] at r0 r1
    exact bodyPost_ret (v := .tuple #[.agg #[.int .i64 0, .slice none 0 0], .int .i64 (-1)]) (by simp [results, Try.results29, go_sem, r0, r1]) rfl (by rw [HT.out]; exact gives_dg_nil b8)
  · have hn0 := hm1.ok.few
    dsimp only at hn0
    have hn : fs.length ≤ 100000 := by omega
    have b1 := below_call b1'
    obtain ⟨B1, kb1, kr1⟩ := BX.out _ b1
    have x0 := kb1.cell 0
    have x1 := kb1.cell 1
    have f0 := kr1.frozen 0
    have f1 := kr1.frozen 1
    have y0 := kr1.cell 0
    have y1 := kr1.cell 1
    simp only [List.getElem?_cons_zero, List.getElem?_cons_succ] at x0 x1 y0 y1
    have HT0 := Lib.hid (HYES.out hq)
    have HCO := Lib.hid (CO.out hq)
    clear hq
    go_wp2_with fail
    refine (HCO.out _ g _ hm1 b1'.size).mono ?_
    rintro e w7 ⟨x7, ⟨rm, rg⟩, full7, rfl, hm7, c7, P7, _⟩
    have b7 := b1.trans (c7.mono (by first | exact Nat.le_refl _ | (simp only [World.size_alloc]; omega)))
    obtain ⟨B7, kb7, kr7⟩ := BX.out _ b7
    have x0 := kb7.cell 0
    have x1 := kb7.cell 1
    have f0 := kr7.frozen 0
    have f1 := kr7.frozen 1
    have y0 := kr7.cell 0
    have y1 := kr7.cell 1
    simp only [List.getElem?_cons_zero, List.getElem?_cons_succ] at x0 x1 y0 y1
    cases full7
    · obtain ⟨_, hcore⟩ := P7.new rfl
      have hx7 := (isP_iff.1 P7.isP).1
      have HT := Lib.hid (HT0.out.trans ((congrArg toldD hcore).trans (if_neg (by show ¬ x7 < 0; omega))))
      have few7 := hm7.ok.few
      clear P7 hcore HT0 HCO
      dsimp only at few7
      go_wp2_with fail
      refine (toldP_yes _ x7 _ g _ _ hm7).mono ?_
      rintro e w9 ⟨A7, c7, rfl, o9, d9⟩
      dsimp only at o9
      have b9 := b7.trans (d9.mono b7.size)
      obtain ⟨B9, kb9, kr9⟩ := BX.out _ b9
      have x0 := kb9.cell 0
      have x1 := kb9.cell 1
      have f0 := kr9.frozen 0
      have f1 := kr9.frozen 1
      have y0 := kr9.cell 0
      have y1 := kr9.cell 1
      simp only [List.getElem?_cons_zero, List.getElem?_cons_succ] at x0 x1 y0 y1
      have n9 : (Value.slice A7 (rg).length c7).ownBlock ≠ some (w.heap.size + 1) := fun e => by have := (o9.lt _ e).1; (try simp only [World.size_alloc] at this); omega
      go_wp2
      have K2 := (kr9.set 0 (.int .i64 rm)).set 1 (.slice A7 (rg).length c7)
      have o8 := own_away (own_away o9 (p := ⟨w.heap.size + 1, 0, none⟩) (.int .i64 rm) n9) (p := ⟨w.heap.size + 1, 1, none⟩) (.slice A7 (rg).length c7) n9
      have b8 := (B9.setCell (p := ⟨w.heap.size + 1, 0, none⟩) (Nat.le_succ _) (.int .i64 rm)).setCell (p := ⟨w.heap.size + 1, 1, none⟩) (Nat.le_succ _) (.slice A7 (rg).length c7)
      generalize (w9.setCell ⟨w.heap.size + 1, 0, none⟩ (.int .i64 rm)).setCell ⟨w.heap.size + 1, 1, none⟩ (.slice A7 (rg).length c7) = w8 at K2 b8 o8 ⊢
      have r0 := K2.cell 0
      have r1 := K2.cell 1
      simp only [List.set_cons_zero, List.set_cons_succ, List.getElem?_cons_zero, List.getElem?_cons_succ] at r0 r1
      obtain ⟨fp, q1, q2, q3⟩ := own_flat (α := Fk) o8 rfl (by unfold maxLen; have := few7; omega)
      exact bodyPost_ret (v := .tuple #[.agg #[.int .i64 rm, .slice A7 (rg).length c7], .int .i64 x7]) (by simp [results, Try.results29, go_sem, r0, r1]) rfl (by rw [HT.out]; exact ⟨A7, _, c7, fp, rfl, q1, q2, fun x hx => by have := q3 x hx; have := B0.size; simp only [World.size_alloc] at *; omega, b8⟩)
    · have HT := Lib.hid (HT0.out.trans (if_pos (by
        rcases P7.no rfl with q | q
        · cases q
        · exact q)))
      clear P7 HT0 HCO
      go_wp2_with fail
      refine (toldP_no _ x7 _ g _ _ hm7).mono ?_
      rintro e w9 ⟨rfl, d9⟩
      have b9 := b7.trans (d9.mono b7.size)
      obtain ⟨B9, kb9, kr9⟩ := BX.out _ b9
      have x0 := kb9.cell 0
      have x1 := kb9.cell 1
      have f0 := kr9.frozen 0
      have f1 := kr9.frozen 1
      have y0 := kr9.cell 0
      have y1 := kr9.cell 1
      simp only [List.getElem?_cons_zero, List.getElem?_cons_succ] at x0 x1 y0 y1
      go_wp2
      have K2 := (kr9.set 0 (.int .i64 0)).set 1 (.slice none 0 0)
      have b8 := (B9.setCell (p := ⟨w.heap.size + 1, 0, none⟩) (Nat.le_succ _) (.int .i64 0)).setCell (p := ⟨w.heap.size + 1, 1, none⟩) (Nat.le_succ _) (.slice none 0 0)
      generalize (w9.setCell ⟨w.heap.size + 1, 0, none⟩ (.int .i64 0)).setCell ⟨w.heap.size + 1, 1, none⟩ (.slice none 0 0) = w8 at K2 b8 ⊢
      have r0 := K2.cell 0
      have r1 := K2.cell 1
      simp only [List.set_cons_zero, List.set_cons_succ, List.getElem?_cons_zero, List.getElem?_cons_succ] at r0 r1
      exact bodyPost_ret (v := .tuple #[.agg #[.int .i64 0, .slice none 0 0], .int .i64 (-1)]) (by simp [results, Try.results29, go_sem, r0, r1]) rfl (by rw [HT.out]; exact gives_dg_nil b8)
set_option maxRecDepth 100000 in
set_option maxHeartbeats 4000000 in
theorem dgOr_impl (d : Dg) (a b : Int) (A : Option Addr) (n c : Nat) (w : World) (h1 : Mem.rd w w.heap.size [.slice A n c] d.forks) :
    Calls Try.prog 31 #[.agg #[.int .i64 d.vars, .slice A n c], .int .i64 a, .int .i64 b] w (GivesDgN w (dgOrB d a b).1 (dgOrB d a b).2) := by
  obtain rfl : d.forks.length = n := rd_len h1
  have MK := Lib.hid (fun W (B : Below w.heap.size w W) => makerD_any d [a, b] A d.forks.length c (some ⟨W.heap.size, 0, none⟩) 2 2 (W.alloc (.cells #[.int .i64 a, .int .i64 b] 3)) (Mem.rd_on_alloc (Mem.rd_on h1 B) _) (rd_newD2 W a b))
  have BX := Lib.hid (two_boxes w #[.int .i64 d.vars, .slice A d.forks.length c] #[.int .i64 0, .slice none 0 0] 29 29)
  have B0 : Below w.heap.size w ((w.alloc (.cells #[.int .i64 d.vars, .slice A d.forks.length c] 29)).alloc (.cells #[.int .i64 0, .slice none 0 0] 29)) := (below_alloc w _).alloc (by simp) _
  have HNO : Hid ((dgB d && areP d [a, b]) = false → dgOrB d a b = (⟨0, []⟩, -1)) := Lib.hid (fun hq => if_neg (fun h => by
    simp only [Bool.and_eq_true] at h
    have hq2 : (dgB d && areP d [a, b]) = true := by simp only [areP, List.all_cons, List.all_nil, Bool.and_true, Bool.and_eq_true]; simp [h]
    rw [hq] at hq2; cases hq2))
  have HYES : Hid ((dgB d && areP d [a, b]) = true → dgOrB d a b = toldD (runF 2 13 d a b)) := Lib.hid (fun hq => if_pos (by
    simp only [areP, List.all_cons, List.all_nil, Bool.and_true, Bool.and_eq_true] at hq ⊢
    simp [hq]))
  have CO : Hid ((dgB d && areP d [a, b]) = true → ∀ base g W, MkD W base g d false 0 → base ≤ W.heap.size → Calls Try.prog 66 #[.pointer (some ⟨g, 0, none⟩), .int .i64 a, .int .i64 b] W (GivesRun base g d 2 a b false (0 + 3 ^ 13) W)) := Lib.hid (fun hq base g W hM hb =>
    or_run d a b false 0 base g W hM hb ⟨by decide, by decide, (show isP d a = true by simp only [areP, List.all_cons, List.all_nil, Bool.and_true, Bool.and_eq_true] at hq; simp [hq]), fun _ => (show isP d b = true by simp only [areP, List.all_cons, List.all_nil, Bool.and_true, Bool.and_eq_true] at hq; simp [hq]), fun h => (by first | rfl | cases h), fun h => (by omega), fun h => (by omega)⟩ (by decide))
  generalize dgOrB d a b = R at *
  obtain ⟨v, fs⟩ := d
  dsimp only [Fk.u] at *
  clear h1
  have MK0 := MK.out _ B0
  simp only [World.size_alloc] at MK0
  go_enter Try.func31, Try.ntmps31
  go_wp2_with fail
  refine MK0.mono ?_
  rintro e w1 (⟨hq, rfl, b1'⟩ | ⟨hq, g, rfl, hm1, b1'⟩)
  · have b1 := below_call b1'
    have HT := Lib.hid (HNO.out hq)
    clear hq
    obtain ⟨B1, kb1, kr1⟩ := BX.out _ b1
    have x0 := kb1.cell 0
    have x1 := kb1.cell 1
    have f0 := kr1.frozen 0
    have f1 := kr1.frozen 1
    have y0 := kr1.cell 0
    have y1 := kr1.cell 1
    simp only [List.getElem?_cons_zero, List.getElem?_cons_succ] at x0 x1 y0 y1
    go_wp2
    have K2 := (kr1.set 0 (.int .i64 0)).set 1 (.slice none 0 0)
    have b8 := (B1.setCell (p := ⟨w.heap.size + 1, 0, none⟩) (Nat.le_succ _) (.int .i64 0)).setCell (p := ⟨w.heap.size + 1, 1, none⟩) (Nat.le_succ _) (.slice none 0 0)
    generalize (w1.setCell ⟨w.heap.size + 1, 0, none⟩ (.int .i64 0)).setCell ⟨w.heap.size + 1, 1, none⟩ (.slice none 0 0) = w8 at K2 b8 ⊢
    have r0 := K2.cell 0
    have r1 := K2.cell 1
    simp only [List.set_cons_zero, List.set_cons_succ, List.getElem?_cons_zero, List.getElem?_cons_succ] at r0 r1
    exact bodyPost_ret (v := .tuple #[.agg #[.int .i64 0, .slice none 0 0], .int .i64 (-1)]) (by simp [results, Try.results31, go_sem, r0, r1]) rfl (by rw [HT.out]; exact gives_dg_nil b8)
  · have hn0 := hm1.ok.few
    dsimp only at hn0
    have hn : fs.length ≤ 100000 := by omega
    have b1 := below_call b1'
    obtain ⟨B1, kb1, kr1⟩ := BX.out _ b1
    have x0 := kb1.cell 0
    have x1 := kb1.cell 1
    have f0 := kr1.frozen 0
    have f1 := kr1.frozen 1
    have y0 := kr1.cell 0
    have y1 := kr1.cell 1
    simp only [List.getElem?_cons_zero, List.getElem?_cons_succ] at x0 x1 y0 y1
    have HT0 := Lib.hid (HYES.out hq)
    have HCO := Lib.hid (CO.out hq)
    clear hq
    go_wp2_with fail
    refine (HCO.out _ g _ hm1 b1'.size).mono ?_
    rintro e w7 ⟨x7, ⟨rm, rg⟩, full7, rfl, hm7, c7, P7, _⟩
    have b7 := b1.trans (c7.mono (by first | exact Nat.le_refl _ | (simp only [World.size_alloc]; omega)))
    obtain ⟨B7, kb7, kr7⟩ := BX.out _ b7
    have x0 := kb7.cell 0
    have x1 := kb7.cell 1
    have f0 := kr7.frozen 0
    have f1 := kr7.frozen 1
    have y0 := kr7.cell 0
    have y1 := kr7.cell 1
    simp only [List.getElem?_cons_zero, List.getElem?_cons_succ] at x0 x1 y0 y1
    cases full7
    · obtain ⟨_, hcore⟩ := P7.new rfl
      have hx7 := (isP_iff.1 P7.isP).1
      have HT := Lib.hid (HT0.out.trans ((congrArg toldD hcore).trans (if_neg (by show ¬ x7 < 0; omega))))
      have few7 := hm7.ok.few
      clear P7 hcore HT0 HCO
      dsimp only at few7
      go_wp2_with fail
      refine (toldP_yes _ x7 _ g _ _ hm7).mono ?_
      rintro e w9 ⟨A7, c7, rfl, o9, d9⟩
      dsimp only at o9
      have b9 := b7.trans (d9.mono b7.size)
      obtain ⟨B9, kb9, kr9⟩ := BX.out _ b9
      have x0 := kb9.cell 0
      have x1 := kb9.cell 1
      have f0 := kr9.frozen 0
      have f1 := kr9.frozen 1
      have y0 := kr9.cell 0
      have y1 := kr9.cell 1
      simp only [List.getElem?_cons_zero, List.getElem?_cons_succ] at x0 x1 y0 y1
      have n9 : (Value.slice A7 (rg).length c7).ownBlock ≠ some (w.heap.size + 1) := fun e => by have := (o9.lt _ e).1; (try simp only [World.size_alloc] at this); omega
      go_wp2
      have K2 := (kr9.set 0 (.int .i64 rm)).set 1 (.slice A7 (rg).length c7)
      have o8 := own_away (own_away o9 (p := ⟨w.heap.size + 1, 0, none⟩) (.int .i64 rm) n9) (p := ⟨w.heap.size + 1, 1, none⟩) (.slice A7 (rg).length c7) n9
      have b8 := (B9.setCell (p := ⟨w.heap.size + 1, 0, none⟩) (Nat.le_succ _) (.int .i64 rm)).setCell (p := ⟨w.heap.size + 1, 1, none⟩) (Nat.le_succ _) (.slice A7 (rg).length c7)
      generalize (w9.setCell ⟨w.heap.size + 1, 0, none⟩ (.int .i64 rm)).setCell ⟨w.heap.size + 1, 1, none⟩ (.slice A7 (rg).length c7) = w8 at K2 b8 o8 ⊢
      have r0 := K2.cell 0
      have r1 := K2.cell 1
      simp only [List.set_cons_zero, List.set_cons_succ, List.getElem?_cons_zero, List.getElem?_cons_succ] at r0 r1
      obtain ⟨fp, q1, q2, q3⟩ := own_flat (α := Fk) o8 rfl (by unfold maxLen; have := few7; omega)
      exact bodyPost_ret (v := .tuple #[.agg #[.int .i64 rm, .slice A7 (rg).length c7], .int .i64 x7]) (by simp [results, Try.results31, go_sem, r0, r1]) rfl (by rw [HT.out]; exact ⟨A7, _, c7, fp, rfl, q1, q2, fun x hx => by have := q3 x hx; have := B0.size; simp only [World.size_alloc] at *; omega, b8⟩)
    · have HT := Lib.hid (HT0.out.trans (if_pos (by
        rcases P7.no rfl with q | q
        · cases q
        · exact q)))
      clear P7 HT0 HCO
      go_wp2_with fail
      refine (toldP_no _ x7 _ g _ _ hm7).mono ?_
      rintro e w9 ⟨rfl, d9⟩
      have b9 := b7.trans (d9.mono b7.size)
      obtain ⟨B9, kb9, kr9⟩ := BX.out _ b9
      have x0 := kb9.cell 0
      have x1 := kb9.cell 1
      have f0 := kr9.frozen 0
      have f1 := kr9.frozen 1
      have y0 := kr9.cell 0
      have y1 := kr9.cell 1
      simp only [List.getElem?_cons_zero, List.getElem?_cons_succ] at x0 x1 y0 y1
      go_wp2
      have K2 := (kr9.set 0 (.int .i64 0)).set 1 (.slice none 0 0)
      have b8 := (B9.setCell (p := ⟨w.heap.size + 1, 0, none⟩) (Nat.le_succ _) (.int .i64 0)).setCell (p := ⟨w.heap.size + 1, 1, none⟩) (Nat.le_succ _) (.slice none 0 0)
      generalize (w9.setCell ⟨w.heap.size + 1, 0, none⟩ (.int .i64 0)).setCell ⟨w.heap.size + 1, 1, none⟩ (.slice none 0 0) = w8 at K2 b8 ⊢
      have r0 := K2.cell 0
      have r1 := K2.cell 1
      simp only [List.set_cons_zero, List.set_cons_succ, List.getElem?_cons_zero, List.getElem?_cons_succ] at r0 r1
      exact bodyPost_ret (v := .tuple #[.agg #[.int .i64 0, .slice none 0 0], .int .i64 (-1)]) (by simp [results, Try.results31, go_sem, r0, r1]) rfl (by rw [HT.out]; exact gives_dg_nil b8)

noncomputable def dgNot1 (d : Dg) (nn : Int) : Dg := (dgNotB d nn).1
noncomputable def dgNot2 (d : Dg) (nn : Int) : Int := (dgNotB d nn).2
theorem dgNot_specR (d : Dg) (nn : Int) (A : Option Addr) (n c : Nat) (w : World) (h1 : Mem.rd w w.heap.size [.slice A n c] d.forks) :
    Calls Try.prog 26 #[.agg #[.int .i64 d.vars, .slice A n c], .int .i64 nn] w (GivesDgN w (dgNot1 d nn) (dgNot2 d nn)) := dgNot_spec d nn A n c w h1
theorem dgNot_implR (d : Dg) (nn : Int) (A : Option Addr) (n c : Nat) (w : World) (h1 : Mem.rd w w.heap.size [.slice A n c] d.forks) :
    Calls Try.prog 27 #[.agg #[.int .i64 d.vars, .slice A n c], .int .i64 nn] w (GivesDgN w (dgNot1 d nn) (dgNot2 d nn)) := dgNot_impl d nn A n c w h1
theorem dgNot1_len (d : Dg) (nn : Int) : (dgNot1 d nn).forks.length ≤ 1048576 := by
  unfold dgNot1 dgNotB
  split
  · rename_i h
    simp only [Bool.and_eq_true] at h
    exact toldD_len (fun hx => (run_ok (dgB_iff.1 h.1) (⟨by decide, by decide, h.2, fun _ => isP_iff.2 (by omega), fun q => (by first | rfl | cases q), fun q => (by omega), fun q => (by omega)⟩ : fitA d 0 nn 1) (rk_13 (dgB_iff.1 h.1) ⟨by decide, by decide, h.2, fun _ => isP_iff.2 (by omega), fun q => (by first | rfl | cases q), fun q => (by omega), fun q => (by omega)⟩) hx).2.1.few)
  · simp

noncomputable def dgAnd1 (d : Dg) (a b : Int) : Dg := (dgAndB d a b).1
noncomputable def dgAnd2 (d : Dg) (a b : Int) : Int := (dgAndB d a b).2
theorem dgAnd_specR (d : Dg) (a b : Int) (A : Option Addr) (n c : Nat) (w : World) (h1 : Mem.rd w w.heap.size [.slice A n c] d.forks) :
    Calls Try.prog 28 #[.agg #[.int .i64 d.vars, .slice A n c], .int .i64 a, .int .i64 b] w (GivesDgN w (dgAnd1 d a b) (dgAnd2 d a b)) := dgAnd_spec d a b A n c w h1
theorem dgAnd_implR (d : Dg) (a b : Int) (A : Option Addr) (n c : Nat) (w : World) (h1 : Mem.rd w w.heap.size [.slice A n c] d.forks) :
    Calls Try.prog 29 #[.agg #[.int .i64 d.vars, .slice A n c], .int .i64 a, .int .i64 b] w (GivesDgN w (dgAnd1 d a b) (dgAnd2 d a b)) := dgAnd_impl d a b A n c w h1
theorem dgAnd1_len (d : Dg) (a b : Int) : (dgAnd1 d a b).forks.length ≤ 1048576 := by
  unfold dgAnd1 dgAndB
  split
  · rename_i h
    simp only [Bool.and_eq_true] at h
    exact toldD_len (fun hx => (run_ok (dgB_iff.1 h.1.1) (⟨by decide, by decide, h.1.2, fun _ => h.2, fun q => (by first | rfl | cases q), fun q => (by omega), fun q => (by omega)⟩ : fitA d 1 a b) (rk_13 (dgB_iff.1 h.1.1) ⟨by decide, by decide, h.1.2, fun _ => h.2, fun q => (by first | rfl | cases q), fun q => (by omega), fun q => (by omega)⟩) hx).2.1.few)
  · simp

noncomputable def dgOr1 (d : Dg) (a b : Int) : Dg := (dgOrB d a b).1
noncomputable def dgOr2 (d : Dg) (a b : Int) : Int := (dgOrB d a b).2
theorem dgOr_specR (d : Dg) (a b : Int) (A : Option Addr) (n c : Nat) (w : World) (h1 : Mem.rd w w.heap.size [.slice A n c] d.forks) :
    Calls Try.prog 30 #[.agg #[.int .i64 d.vars, .slice A n c], .int .i64 a, .int .i64 b] w (GivesDgN w (dgOr1 d a b) (dgOr2 d a b)) := dgOr_spec d a b A n c w h1
theorem dgOr_implR (d : Dg) (a b : Int) (A : Option Addr) (n c : Nat) (w : World) (h1 : Mem.rd w w.heap.size [.slice A n c] d.forks) :
    Calls Try.prog 31 #[.agg #[.int .i64 d.vars, .slice A n c], .int .i64 a, .int .i64 b] w (GivesDgN w (dgOr1 d a b) (dgOr2 d a b)) := dgOr_impl d a b A n c w h1
theorem dgOr1_len (d : Dg) (a b : Int) : (dgOr1 d a b).forks.length ≤ 1048576 := by
  unfold dgOr1 dgOrB
  split
  · rename_i h
    simp only [Bool.and_eq_true] at h
    exact toldD_len (fun hx => (run_ok (dgB_iff.1 h.1.1) (⟨by decide, by decide, h.1.2, fun _ => h.2, fun q => (by first | rfl | cases q), fun q => (by omega), fun q => (by omega)⟩ : fitA d 2 a b) (rk_13 (dgB_iff.1 h.1.1) ⟨by decide, by decide, h.1.2, fun _ => h.2, fun q => (by first | rfl | cases q), fun q => (by omega), fun q => (by omega)⟩) hx).2.1.few)
  · simp

end Go.Proofs.Ytfkdggiigomgkaa
