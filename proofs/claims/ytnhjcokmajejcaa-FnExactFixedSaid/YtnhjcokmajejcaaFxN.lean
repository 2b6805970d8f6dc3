/- Fixed: arguments that are not allowed. -/
import Derived.Test.YtnhjcokmajejcaaFx
import Derived.Test.YtnhjcokmajejcaaMkZ
import Derived.Test.YtnhjcokmajejcaaMkE
import Derived.Test.YtnhjcokmajejcaaCiV
namespace Go.Proofs.Ytnhjcokmajejcaa
open Go.RowKit
set_option maxRecDepth 100000

set_option maxRecDepth 100000 in
set_option maxHeartbeats 2000000 in
theorem fixed_spec_no (s : Ci) (edge inp val : Int) (A : Option Addr) (n c : Nat) (w : World) (h1 : Mem.rd w w.heap.size [.slice A n c] s.gates) (hn : fxOk s edge inp val = false) :
    Calls Try.prog 19 #[.agg #[.int .i64 s.ins, .slice A n c], .int .i64 edge, .int .i64 inp, .int .i64 val] w (GivesCiN w ⟨0, []⟩ (-1)) := by
  obtain rfl : s.gates.length = n := rd_len h1
  have BX := Lib.hid (two_boxes w #[.int .i64 s.ins, .slice A s.gates.length c] #[.int .i64 0, .slice none 0 0] 49 49)
  have B0 : Below w.heap.size w ((w.alloc (.cells #[.int .i64 s.ins, .slice A s.gates.length c] 49)).alloc (.cells #[.int .i64 0, .slice none 0 0] 49)) := (below_alloc w _).alloc (by simp) _
  have CK := Lib.hid (fun W (B : Below w.heap.size w W) => ckValid_spec s A s.gates.length c W (Mem.rd_on h1 B))
  cases k1 : ckB s
  · rw [k1] at CK
    obtain ⟨m, gs⟩ := s
    dsimp only at *
    clear k1 h1 hn
    go_enter Try.func19, Try.ntmps19
    go_wp2_with fail
    refine (CK.out _ B0).mono ?_
    rintro e w1 ⟨rfl, b1⟩
    obtain ⟨B1, kb1, kr1⟩ := BX.out _ b1
    have x0 := kb1.cell 0
    have x1 := kb1.cell 1
    have f0 := kr1.frozen 0
    have f1 := kr1.frozen 1
    have y0 := kr1.cell 0
    have y1 := kr1.cell 1
    simp only [List.getElem?_cons_zero, List.getElem?_cons_succ] at x0 x1 y0 y1
    go_wp2
    have K2 := (kr1.set 0 (.int .i64 0)).set 1 (.slice none 0 0)
    have b8 := (B1.setCell (p := ⟨w.heap.size + 1, 0, none⟩) (Nat.le_succ _) (.int .i64 0)).setCell (p := ⟨w.heap.size + 1, 1, none⟩) (Nat.le_succ _) (.slice none 0 0)
    generalize (w1.setCell ⟨w.heap.size + 1, 0, none⟩ (.int .i64 0)).setCell ⟨w.heap.size + 1, 1, none⟩ (.slice none 0 0) = w8 at K2 b8 ⊢
    have r0 := K2.cell 0
    have r1 := K2.cell 1
    simp only [List.set_cons_zero, List.set_cons_succ, List.getElem?_cons_zero, List.getElem?_cons_succ] at r0 r1
    exact bodyPost_ret (v := .tuple #[.agg #[.int .i64 0, .slice none 0 0], .int .i64 (-1)]) (by simp [results, Try.results19, go_sem, r0, r1]) rfl (gives_ci_nil b8)
  · have ok := ckB_iff.1 k1
    have L0 := Lib.hid (fun W => l7Edge_any s A c edge W ok.lo ok.hi ok.few)
    have lo := ok.lo
    have hi := ok.hi
    rw [k1] at CK
    cases q0 : isE s edge
    · rw [q0] at L0
      obtain ⟨m, gs⟩ := s
      dsimp only at *
      clear k1 h1 hn ok q0
      go_enter Try.func19, Try.ntmps19
      go_wp2_with fail
      refine (CK.out _ B0).mono ?_
      rintro e w1 ⟨rfl, b1⟩
      obtain ⟨B1, kb1, kr1⟩ := BX.out _ b1
      have x0 := kb1.cell 0
      have x1 := kb1.cell 1
      have f0 := kr1.frozen 0
      have f1 := kr1.frozen 1
      have y0 := kr1.cell 0
      have y1 := kr1.cell 1
      simp only [List.getElem?_cons_zero, List.getElem?_cons_succ] at x0 x1 y0 y1
      go_wp2_with fail
      refine (L0.out _).mono ?_
      rintro e w2 ⟨rfl, c2⟩
      have b2 := b1.trans (c2.mono b1.size)
      obtain ⟨B2, kb2, kr2⟩ := BX.out _ b2
      have x0 := kb2.cell 0
      have x1 := kb2.cell 1
      have f0 := kr2.frozen 0
      have f1 := kr2.frozen 1
      have y0 := kr2.cell 0
      have y1 := kr2.cell 1
      simp only [List.getElem?_cons_zero, List.getElem?_cons_succ] at x0 x1 y0 y1
      go_wp2
      have K2 := (kr2.set 0 (.int .i64 0)).set 1 (.slice none 0 0)
      have b8 := (B2.setCell (p := ⟨w.heap.size + 1, 0, none⟩) (Nat.le_succ _) (.int .i64 0)).setCell (p := ⟨w.heap.size + 1, 1, none⟩) (Nat.le_succ _) (.slice none 0 0)
      generalize (w2.setCell ⟨w.heap.size + 1, 0, none⟩ (.int .i64 0)).setCell ⟨w.heap.size + 1, 1, none⟩ (.slice none 0 0) = w8 at K2 b8 ⊢
      have r0 := K2.cell 0
      have r1 := K2.cell 1
      simp only [List.set_cons_zero, List.set_cons_succ, List.getElem?_cons_zero, List.getElem?_cons_succ] at r0 r1
      exact bodyPost_ret (v := .tuple #[.agg #[.int .i64 0, .slice none 0 0], .int .i64 (-1)]) (by simp [results, Try.results19, go_sem, r0, r1]) rfl (gives_ci_nil b8)
    · rw [q0] at L0
      have hs : ¬ (0 ≤ inp ∧ inp < s.ins) ∨ ((0 ≤ inp ∧ inp < s.ins) ∧ ¬ (val = 0 ∨ val = 1)) := by
        unfold fxOk at hn
        rw [k1, q0] at hn
        simp only [Bool.true_and, Bool.and_eq_false_iff, decide_eq_false_iff_not] at hn
        by_cases q : 0 ≤ inp ∧ inp < s.ins
        · exact .inr ⟨q, hn.resolve_left (fun e => e q)⟩
        · exact .inl q
      obtain ⟨m, gs⟩ := s
      dsimp only at *
      clear k1 h1 hn ok q0
      rcases hs with hs | ⟨hs, hv⟩
      · have L1 := Lib.hid (fun W => l1In_no (n := inp) (lo := 0) (hi := m - 1) (by omega) W)
        go_enter Try.func19, Try.ntmps19
        go_wp2_with fail
        refine (CK.out _ B0).mono ?_
        rintro e w1 ⟨rfl, b1⟩
        obtain ⟨B1, kb1, kr1⟩ := BX.out _ b1
        have x0 := kb1.cell 0
        have x1 := kb1.cell 1
        have f0 := kr1.frozen 0
        have f1 := kr1.frozen 1
        have y0 := kr1.cell 0
        have y1 := kr1.cell 1
        simp only [List.getElem?_cons_zero, List.getElem?_cons_succ] at x0 x1 y0 y1
        go_wp2_with fail
        refine (L0.out _).mono ?_
        rintro e w2 ⟨rfl, c2⟩
        have b2 := b1.trans (c2.mono b1.size)
        obtain ⟨B2, kb2, kr2⟩ := BX.out _ b2
        have x0 := kb2.cell 0
        have x1 := kb2.cell 1
        have f0 := kr2.frozen 0
        have f1 := kr2.frozen 1
        have y0 := kr2.cell 0
        have y1 := kr2.cell 1
        simp only [List.getElem?_cons_zero, List.getElem?_cons_succ] at x0 x1 y0 y1
        have wm : IntKind.i64.wrap (m - 1) = m - 1 := IntWalk.i64_in _ (by omega)
        go_wp2_with fail
        refine (L1.out _).mono ?_
        rintro e w3 ⟨rfl, rfl⟩
        go_wp2
        have K2 := (kr2.set 0 (.int .i64 0)).set 1 (.slice none 0 0)
        have b8 := (B2.setCell (p := ⟨w.heap.size + 1, 0, none⟩) (Nat.le_succ _) (.int .i64 0)).setCell (p := ⟨w.heap.size + 1, 1, none⟩) (Nat.le_succ _) (.slice none 0 0)
        generalize (w2.setCell ⟨w.heap.size + 1, 0, none⟩ (.int .i64 0)).setCell ⟨w.heap.size + 1, 1, none⟩ (.slice none 0 0) = w8 at K2 b8 ⊢
        have r0 := K2.cell 0
        have r1 := K2.cell 1
        simp only [List.set_cons_zero, List.set_cons_succ, List.getElem?_cons_zero, List.getElem?_cons_succ] at r0 r1
        exact bodyPost_ret (v := .tuple #[.agg #[.int .i64 0, .slice none 0 0], .int .i64 (-1)]) (by simp [results, Try.results19, go_sem, r0, r1]) rfl (gives_ci_nil b8)
      · have L1 := Lib.hid (fun W => l1In_yes (n := inp) (lo := 0) (hi := m - 1) (by omega) W)
        have L2 := Lib.hid (fun W => l1In_no (n := val) (lo := 0) (hi := 1) (by omega) W)
        go_enter Try.func19, Try.ntmps19
        go_wp2_with fail
        refine (CK.out _ B0).mono ?_
        rintro e w1 ⟨rfl, b1⟩
        obtain ⟨B1, kb1, kr1⟩ := BX.out _ b1
        have x0 := kb1.cell 0
        have x1 := kb1.cell 1
        have f0 := kr1.frozen 0
        have f1 := kr1.frozen 1
        have y0 := kr1.cell 0
        have y1 := kr1.cell 1
        simp only [List.getElem?_cons_zero, List.getElem?_cons_succ] at x0 x1 y0 y1
        go_wp2_with fail
        refine (L0.out _).mono ?_
        rintro e w2 ⟨rfl, c2⟩
        have b2 := b1.trans (c2.mono b1.size)
        obtain ⟨B2, kb2, kr2⟩ := BX.out _ b2
        have x0 := kb2.cell 0
        have x1 := kb2.cell 1
        have f0 := kr2.frozen 0
        have f1 := kr2.frozen 1
        have y0 := kr2.cell 0
        have y1 := kr2.cell 1
        simp only [List.getElem?_cons_zero, List.getElem?_cons_succ] at x0 x1 y0 y1
        have wm : IntKind.i64.wrap (m - 1) = m - 1 := IntWalk.i64_in _ (by omega)
        go_wp2_with fail
        refine (L1.out _).mono ?_
        rintro e w3 ⟨rfl, rfl⟩
        go_wp2_with fail
        refine (L2.out _).mono ?_
        rintro e w3 ⟨rfl, rfl⟩
        go_wp2
        have K2 := (kr2.set 0 (.int .i64 0)).set 1 (.slice none 0 0)
        have b8 := (B2.setCell (p := ⟨w.heap.size + 1, 0, none⟩) (Nat.le_succ _) (.int .i64 0)).setCell (p := ⟨w.heap.size + 1, 1, none⟩) (Nat.le_succ _) (.slice none 0 0)
        generalize (w2.setCell ⟨w.heap.size + 1, 0, none⟩ (.int .i64 0)).setCell ⟨w.heap.size + 1, 1, none⟩ (.slice none 0 0) = w8 at K2 b8 ⊢
        have r0 := K2.cell 0
        have r1 := K2.cell 1
        simp only [List.set_cons_zero, List.set_cons_succ, List.getElem?_cons_zero, List.getElem?_cons_succ] at r0 r1
        exact bodyPost_ret (v := .tuple #[.agg #[.int .i64 0, .slice none 0 0], .int .i64 (-1)]) (by simp [results, Try.results19, go_sem, r0, r1]) rfl (gives_ci_nil b8)

set_option maxRecDepth 100000 in
set_option maxHeartbeats 2000000 in
theorem fixed_impl_no (s : Ci) (edge inp val : Int) (A : Option Addr) (n c : Nat) (w : World) (h1 : Mem.rd w w.heap.size [.slice A n c] s.gates) (hn : fxOk s edge inp val = false) :
    Calls Try.prog 21 #[.agg #[.int .i64 s.ins, .slice A n c], .int .i64 edge, .int .i64 inp, .int .i64 val] w (GivesCiN w ⟨0, []⟩ (-1)) := by
  obtain rfl : s.gates.length = n := rd_len h1
  have BX := Lib.hid (two_boxes w #[.int .i64 s.ins, .slice A s.gates.length c] #[.int .i64 0, .slice none 0 0] 49 49)
  have B0 : Below w.heap.size w ((w.alloc (.cells #[.int .i64 s.ins, .slice A s.gates.length c] 49)).alloc (.cells #[.int .i64 0, .slice none 0 0] 49)) := (below_alloc w _).alloc (by simp) _
  have HE := Lib.hid (fun W (B : Below w.heap.size w W) => hasEdges_any s A s.gates.length c (some ⟨W.heap.size, 0, none⟩) 1 1 [edge] (W.alloc (.cells #[.int .i64 edge] 3)) (Mem.rd_on_alloc (Mem.rd_on h1 B) _) (rd_new1 W edge))
  cases k1 : (ckB s && areE s [edge])
  · rw [k1] at HE
    obtain ⟨m, gs⟩ := s
    dsimp only at *
    clear k1 h1 hn
    have HE0 := HE.out _ B0
    simp only [World.size_alloc] at HE0
    go_enter Try.func21, Try.ntmps21
    go_wp2_with fail
    refine HE0.mono ?_
    rintro e w1 ⟨rfl, b1'⟩
    have b1 := below_call b1'
    obtain ⟨B1, kb1, kr1⟩ := BX.out _ b1
    have x0 := kb1.cell 0
    have x1 := kb1.cell 1
    have f0 := kr1.frozen 0
    have f1 := kr1.frozen 1
    have y0 := kr1.cell 0
    have y1 := kr1.cell 1
    simp only [List.getElem?_cons_zero, List.getElem?_cons_succ] at x0 x1 y0 y1
    go_wp2
    have K2 := (kr1.set 0 (.int .i64 0)).set 1 (.slice none 0 0)
    have b8 := (B1.setCell (p := ⟨w.heap.size + 1, 0, none⟩) (Nat.le_succ _) (.int .i64 0)).setCell (p := ⟨w.heap.size + 1, 1, none⟩) (Nat.le_succ _) (.slice none 0 0)
    generalize (w1.setCell ⟨w.heap.size + 1, 0, none⟩ (.int .i64 0)).setCell ⟨w.heap.size + 1, 1, none⟩ (.slice none 0 0) = w8 at K2 b8 ⊢
    have r0 := K2.cell 0
    have r1 := K2.cell 1
    simp only [List.set_cons_zero, List.set_cons_succ, List.getElem?_cons_zero, List.getElem?_cons_succ] at r0 r1
    exact bodyPost_ret (v := .tuple #[.agg #[.int .i64 0, .slice none 0 0], .int .i64 (-1)]) (by simp [results, Try.results21, go_sem, r0, r1]) rfl (gives_ci_nil b8)
  · rw [k1] at HE
    have hs : ¬ (0 ≤ inp ∧ inp < s.ins) ∨ ((0 ≤ inp ∧ inp < s.ins) ∧ ¬ (val = 0 ∨ val = 1)) := by
      unfold fxOk at hn
      have : (ckB s && isE s edge) = true := by simpa [areE] using k1
      rw [this] at hn
      simp only [Bool.true_and, Bool.and_eq_false_iff, decide_eq_false_iff_not] at hn
      by_cases q : 0 ≤ inp ∧ inp < s.ins
      · exact .inr ⟨q, hn.resolve_left (fun e => e q)⟩
      · exact .inl q
    obtain ⟨m, gs⟩ := s
    dsimp only at *
    clear k1 h1 hn
    have HE0 := HE.out _ B0
    simp only [World.size_alloc] at HE0
    have arm : inp < 0 ∨ (0 ≤ inp ∧ m ≤ inp) ∨ (0 ≤ inp ∧ inp < m ∧ val ≠ 0 ∧ val ≠ 1) := by omega
    clear hs
    rcases arm with g | ⟨g, g1⟩ | ⟨g, g1, v0, v1⟩
    all_goals
      try (have e0 : (val != 0) = true := by simp [v0])
      try (have e1 : (val != 1) = true := by simp [v1])
      go_enter Try.func21, Try.ntmps21
      go_wp2_with fail
      refine HE0.mono ?_
      rintro e w1 ⟨rfl, b1'⟩
      have b1 := below_call b1'
      obtain ⟨B1, kb1, kr1⟩ := BX.out _ b1
      have x0 := kb1.cell 0
      have x1 := kb1.cell 1
      have f0 := kr1.frozen 0
      have f1 := kr1.frozen 1
      have y0 := kr1.cell 0
      have y1 := kr1.cell 1
      simp only [List.getElem?_cons_zero, List.getElem?_cons_succ] at x0 x1 y0 y1
      go_wp2
      have K2 := (kr1.set 0 (.int .i64 0)).set 1 (.slice none 0 0)
      have b8 := (B1.setCell (p := ⟨w.heap.size + 1, 0, none⟩) (Nat.le_succ _) (.int .i64 0)).setCell (p := ⟨w.heap.size + 1, 1, none⟩) (Nat.le_succ _) (.slice none 0 0)
      generalize (w1.setCell ⟨w.heap.size + 1, 0, none⟩ (.int .i64 0)).setCell ⟨w.heap.size + 1, 1, none⟩ (.slice none 0 0) = w8 at K2 b8 ⊢
      have r0 := K2.cell 0
      have r1 := K2.cell 1
      simp only [List.set_cons_zero, List.set_cons_succ, List.getElem?_cons_zero, List.getElem?_cons_succ] at r0 r1
      exact bodyPost_ret (v := .tuple #[.agg #[.int .i64 0, .slice none 0 0], .int .i64 (-1)]) (by simp [results, Try.results21, go_sem, r0, r1]) rfl (gives_ci_nil b8)
end Go.Proofs.Ytnhjcokmajejcaa
