/- Circuits that are made: AddPick, in the model and in the program. -/
import Derived.Test.YtmimefcljdllcaaMkG
import Derived.Test.YtmimefcljdllcaaMkF
namespace Go.Proofs.Ytmimefcljdllcaa
open Go.RowKit

theorem l7Pick_w (s : Ci) (A : Option Addr) (c : Nat) (z y n : Int) (base : Nat) (w : World) (ho : w.ownsRow base 52 2 (.slice A s.gates.length c) s.gates.length (fl s.gates)) (hb : base ≤ w.heap.size) (z0 : 0 ≤ z) (z1 : z < 2000) (y0 : 0 ≤ y) (y1 : y < 2000) (n0 : 0 ≤ n) (n1 : n < 2000) (h : Gd s) :
    Calls Try.prog 61 #[.agg #[.int .i64 s.ins, .slice A s.gates.length c], .int .i64 z, .int .i64 y, .int .i64 n] w (GivesCW base (bl (.slice A s.gates.length c)) w (pickB s z y n)) := by
  by_cases hyn : y = n
  · subst hyn
    have e : pickB s z y y = (s, y) := if_pos rfl
    rw [e]
    exact l7Pick_same s A c z y base w ho
  · exact l7Pick_main s A c z y n base w ho hb h z0 z1 y0 y1 n0 n1 hyn
theorem pickB_lo {s : Ci} {z y n : Int} (h : Gd s) (z0 : 0 ≤ z) (z1 : z < 2000) (y0 : 0 ≤ y) (y1 : y < 2000) (n0 : 0 ≤ n) (n1 : n < 2000) : -1 ≤ (pickB s z y n).2 := (pickB_gd h z0 z1 y0 y1 n0 n1).2
theorem pickB_few {s : Ci} {z y n : Int} (h : Gd s) (z0 : 0 ≤ z) (z1 : z < 2000) (y0 : 0 ≤ y) (y1 : y < 2000) (n0 : 0 ≤ n) (n1 : n < 2000) : (pickB s z y n).1.gates.length ≤ 600 := (pickB_gd h z0 z1 y0 y1 n0 n1).1

noncomputable def addPickB (s : Ci) (a b d : Int) : Ci × Int := addB (fun s => pickB s a b d) s [a, b, d]
set_option maxRecDepth 100000 in
set_option maxHeartbeats 2000000 in
theorem addPick_spec (s : Ci) (a b d : Int) (A : Option Addr) (n c : Nat) (w : World) (h1 : Mem.rd w w.heap.size [.slice A n c] s.gates) :
    Calls Try.prog 30 #[.agg #[.int .i64 s.ins, .slice A n c], .int .i64 a, .int .i64 b, .int .i64 d] w (GivesCiN w (addPickB s a b d).1 (addPickB s a b d).2) := by
  obtain rfl : s.gates.length = n := rd_len h1
  have CK := Lib.hid (fun W (B : Below w.heap.size w W) => ckValid_spec s A s.gates.length c W (Mem.rd_on h1 B))
  have BX := Lib.hid (two_boxes w #[.int .i64 s.ins, .slice A s.gates.length c] #[.int .i64 0, .slice none 0 0] 29 29)
  have B0 : Below w.heap.size w ((w.alloc (.cells #[.int .i64 s.ins, .slice A s.gates.length c] 29)).alloc (.cells #[.int .i64 0, .slice none 0 0] 29)) := (below_alloc w _).alloc (by simp) _
  cases k1 : ckB s
  · have hE : addPickB s a b d = (⟨0, []⟩, -1) := addB_no (by rw [k1]; rfl)
    rw [hE]
    rw [k1] at CK
    obtain ⟨m, gs⟩ := s
    dsimp only at *
    clear hE k1 h1
    go_enter Try.func30, Try.ntmps30
    go_wp2_with fail
    refine (CK.out _ B0).mono ?_
    rintro e w1 ⟨rfl, b1⟩
    obtain ⟨B1, kb1, kr1⟩ := BX.out _ b1
    have x0 := kb1.cell 0
    have x1 := kb1.cell 1
    have f0 := kr1.frozen 0
    have f1 := kr1.frozen 1
    have y0 := kr1.cell 0
    have y1 := kr1.cell 1
    simp only [List.getElem?_cons_zero, List.getElem?_cons_succ] at x0 x1 y0 y1
    go_wp2
    have K2 := (kr1.set 0 (.int .i64 0)).set 1 (.slice none 0 0)
    have b8 := (B1.setCell (p := ⟨w.heap.size + 1, 0, none⟩) (Nat.le_succ _) (.int .i64 0)).setCell (p := ⟨w.heap.size + 1, 1, none⟩) (Nat.le_succ _) (.slice none 0 0)
    generalize (w1.setCell ⟨w.heap.size + 1, 0, none⟩ (.int .i64 0)).setCell ⟨w.heap.size + 1, 1, none⟩ (.slice none 0 0) = w8 at K2 b8 ⊢
    have r0 := K2.cell 0
    have r1 := K2.cell 1
    simp only [List.set_cons_zero, List.set_cons_succ, List.getElem?_cons_zero, List.getElem?_cons_succ] at r0 r1
    exact bodyPost_ret (v := .tuple #[.agg #[.int .i64 0, .slice none 0 0], .int .i64 (-1)]) (by simp [results, Try.results30, go_sem, r0, r1]) rfl (gives_ci_nil b8)
  · have ok := ckB_iff.1 k1
    have LE := Lib.hid (fun x W => l7Edge_any s A c x W ok.lo ok.hi ok.few)
    have gd := Gd.of_ok ok
    have hnn := Ci.nodes_le ok.lo ok.hi ok.few
    rw [k1] at CK
    have L0 := Lib.hid (fun W => LE.out a W)
    cases q0 : isE s a
    · have hE : addPickB s a b d = (⟨0, []⟩, -1) := addB_no (by rw [k1]; simp [areE, q0])
      rw [hE]
      rw [q0] at L0
      obtain ⟨m, gs⟩ := s
      dsimp only at *
      clear hE k1 h1 ok gd hnn LE q0
      go_enter Try.func30, Try.ntmps30
      go_wp2_with fail
      refine (CK.out _ B0).mono ?_
      rintro e w1 ⟨rfl, b1⟩
      obtain ⟨B1, kb1, kr1⟩ := BX.out _ b1
      have x0 := kb1.cell 0
      have x1 := kb1.cell 1
      have f0 := kr1.frozen 0
      have f1 := kr1.frozen 1
      have y0 := kr1.cell 0
      have y1 := kr1.cell 1
      simp only [List.getElem?_cons_zero, List.getElem?_cons_succ] at x0 x1 y0 y1
      go_wp2_with fail
      refine (L0.out _).mono ?_
      rintro e w2 ⟨rfl, c2⟩
      have b2 := b1.trans (c2.mono b1.size)
      obtain ⟨B2, kb2, kr2⟩ := BX.out _ b2
      have x0 := kb2.cell 0
      have x1 := kb2.cell 1
      have f0 := kr2.frozen 0
      have f1 := kr2.frozen 1
      have y0 := kr2.cell 0
      have y1 := kr2.cell 1
      simp only [List.getElem?_cons_zero, List.getElem?_cons_succ] at x0 x1 y0 y1
      go_wp2
      have K2 := (kr2.set 0 (.int .i64 0)).set 1 (.slice none 0 0)
      have b8 := (B2.setCell (p := ⟨w.heap.size + 1, 0, none⟩) (Nat.le_succ _) (.int .i64 0)).setCell (p := ⟨w.heap.size + 1, 1, none⟩) (Nat.le_succ _) (.slice none 0 0)
      generalize (w2.setCell ⟨w.heap.size + 1, 0, none⟩ (.int .i64 0)).setCell ⟨w.heap.size + 1, 1, none⟩ (.slice none 0 0) = w8 at K2 b8 ⊢
      have r0 := K2.cell 0
      have r1 := K2.cell 1
      simp only [List.set_cons_zero, List.set_cons_succ, List.getElem?_cons_zero, List.getElem?_cons_succ] at r0 r1
      exact bodyPost_ret (v := .tuple #[.agg #[.int .i64 0, .slice none 0 0], .int .i64 (-1)]) (by simp [results, Try.results30, go_sem, r0, r1]) rfl (gives_ci_nil b8)
    · have L1 := Lib.hid (fun W => LE.out b W)
      cases q1 : isE s b
      · have hE : addPickB s a b d = (⟨0, []⟩, -1) := addB_no (by rw [k1]; simp [areE, q0, q1])
        rw [hE]
        rw [q0] at L0
        rw [q1] at L1
        obtain ⟨m, gs⟩ := s
        dsimp only at *
        clear hE k1 h1 ok gd hnn LE q0 q1
        go_enter Try.func30, Try.ntmps30
        go_wp2_with fail
        refine (CK.out _ B0).mono ?_
        rintro e w1 ⟨rfl, b1⟩
        obtain ⟨B1, kb1, kr1⟩ := BX.out _ b1
        have x0 := kb1.cell 0
        have x1 := kb1.cell 1
        have f0 := kr1.frozen 0
        have f1 := kr1.frozen 1
        have y0 := kr1.cell 0
        have y1 := kr1.cell 1
        simp only [List.getElem?_cons_zero, List.getElem?_cons_succ] at x0 x1 y0 y1
        go_wp2_with fail
        refine (L0.out _).mono ?_
        rintro e w2 ⟨rfl, c2⟩
        have b2 := b1.trans (c2.mono b1.size)
        obtain ⟨B2, kb2, kr2⟩ := BX.out _ b2
        have x0 := kb2.cell 0
        have x1 := kb2.cell 1
        have f0 := kr2.frozen 0
        have f1 := kr2.frozen 1
        have y0 := kr2.cell 0
        have y1 := kr2.cell 1
        simp only [List.getElem?_cons_zero, List.getElem?_cons_succ] at x0 x1 y0 y1
        go_wp2_with fail
        refine (L1.out _).mono ?_
        rintro e w3 ⟨rfl, c3⟩
        have b3 := b2.trans (c3.mono b2.size)
        obtain ⟨B3, kb3, kr3⟩ := BX.out _ b3
        have x0 := kb3.cell 0
        have x1 := kb3.cell 1
        have f0 := kr3.frozen 0
        have f1 := kr3.frozen 1
        have y0 := kr3.cell 0
        have y1 := kr3.cell 1
        simp only [List.getElem?_cons_zero, List.getElem?_cons_succ] at x0 x1 y0 y1
        go_wp2
        have K2 := (kr3.set 0 (.int .i64 0)).set 1 (.slice none 0 0)
        have b8 := (B3.setCell (p := ⟨w.heap.size + 1, 0, none⟩) (Nat.le_succ _) (.int .i64 0)).setCell (p := ⟨w.heap.size + 1, 1, none⟩) (Nat.le_succ _) (.slice none 0 0)
        generalize (w3.setCell ⟨w.heap.size + 1, 0, none⟩ (.int .i64 0)).setCell ⟨w.heap.size + 1, 1, none⟩ (.slice none 0 0) = w8 at K2 b8 ⊢
        have r0 := K2.cell 0
        have r1 := K2.cell 1
        simp only [List.set_cons_zero, List.set_cons_succ, List.getElem?_cons_zero, List.getElem?_cons_succ] at r0 r1
        exact bodyPost_ret (v := .tuple #[.agg #[.int .i64 0, .slice none 0 0], .int .i64 (-1)]) (by simp [results, Try.results30, go_sem, r0, r1]) rfl (gives_ci_nil b8)
      · have L2 := Lib.hid (fun W => LE.out d W)
        cases q2 : isE s d
        · have hE : addPickB s a b d = (⟨0, []⟩, -1) := addB_no (by rw [k1]; simp [areE, q0, q1, q2])
          rw [hE]
          rw [q0] at L0
          rw [q1] at L1
          rw [q2] at L2
          obtain ⟨m, gs⟩ := s
          dsimp only at *
          clear hE k1 h1 ok gd hnn LE q0 q1 q2
          go_enter Try.func30, Try.ntmps30
          go_wp2_with fail
          refine (CK.out _ B0).mono ?_
          rintro e w1 ⟨rfl, b1⟩
          obtain ⟨B1, kb1, kr1⟩ := BX.out _ b1
          have x0 := kb1.cell 0
          have x1 := kb1.cell 1
          have f0 := kr1.frozen 0
          have f1 := kr1.frozen 1
          have y0 := kr1.cell 0
          have y1 := kr1.cell 1
          simp only [List.getElem?_cons_zero, List.getElem?_cons_succ] at x0 x1 y0 y1
          go_wp2_with fail
          refine (L0.out _).mono ?_
          rintro e w2 ⟨rfl, c2⟩
          have b2 := b1.trans (c2.mono b1.size)
          obtain ⟨B2, kb2, kr2⟩ := BX.out _ b2
          have x0 := kb2.cell 0
          have x1 := kb2.cell 1
          have f0 := kr2.frozen 0
          have f1 := kr2.frozen 1
          have y0 := kr2.cell 0
          have y1 := kr2.cell 1
          simp only [List.getElem?_cons_zero, List.getElem?_cons_succ] at x0 x1 y0 y1
          go_wp2_with fail
          refine (L1.out _).mono ?_
          rintro e w3 ⟨rfl, c3⟩
          have b3 := b2.trans (c3.mono b2.size)
          obtain ⟨B3, kb3, kr3⟩ := BX.out _ b3
          have x0 := kb3.cell 0
          have x1 := kb3.cell 1
          have f0 := kr3.frozen 0
          have f1 := kr3.frozen 1
          have y0 := kr3.cell 0
          have y1 := kr3.cell 1
          simp only [List.getElem?_cons_zero, List.getElem?_cons_succ] at x0 x1 y0 y1
          go_wp2_with fail
          refine (L2.out _).mono ?_
          rintro e w4 ⟨rfl, c4⟩
          have b4 := b3.trans (c4.mono b3.size)
          obtain ⟨B4, kb4, kr4⟩ := BX.out _ b4
          have x0 := kb4.cell 0
          have x1 := kb4.cell 1
          have f0 := kr4.frozen 0
          have f1 := kr4.frozen 1
          have y0 := kr4.cell 0
          have y1 := kr4.cell 1
          simp only [List.getElem?_cons_zero, List.getElem?_cons_succ] at x0 x1 y0 y1
          go_wp2
          have K2 := (kr4.set 0 (.int .i64 0)).set 1 (.slice none 0 0)
          have b8 := (B4.setCell (p := ⟨w.heap.size + 1, 0, none⟩) (Nat.le_succ _) (.int .i64 0)).setCell (p := ⟨w.heap.size + 1, 1, none⟩) (Nat.le_succ _) (.slice none 0 0)
          generalize (w4.setCell ⟨w.heap.size + 1, 0, none⟩ (.int .i64 0)).setCell ⟨w.heap.size + 1, 1, none⟩ (.slice none 0 0) = w8 at K2 b8 ⊢
          have r0 := K2.cell 0
          have r1 := K2.cell 1
          simp only [List.set_cons_zero, List.set_cons_succ, List.getElem?_cons_zero, List.getElem?_cons_succ] at r0 r1
          exact bodyPost_ret (v := .tuple #[.agg #[.int .i64 0, .slice none 0 0], .int .i64 (-1)]) (by simp [results, Try.results30, go_sem, r0, r1]) rfl (gives_ci_nil b8)
        · have hE : addPickB s a b d = toldB (pickB s a b d) := addB_yes (by rw [k1]; simp [areE, q0, q1, q2])
          obtain ⟨a0, a1⟩ := isE_iff.1 q0
          obtain ⟨b0, b1⟩ := isE_iff.1 q1
          obtain ⟨d0, d1⟩ := isE_iff.1 q2
          rw [hE]
          have CP := Lib.hid (fun W (B : Below w.heap.size w W) => l7Copy_any s A s.gates.length c W (Mem.rd_on h1 B) (by have := ok.few; omega))
          have CO := Lib.hid (fun A2 c2 base W ho hb => l7Pick_w s A2 c2 a b d base W ho hb a0 (by omega) b0 (by omega) d0 (by omega) gd)
          rw [q0] at L0
          rw [q1] at L1
          rw [q2] at L2
          have hlo : -1 ≤ (pickB s a b d).2 := pickB_lo gd a0 (by omega) b0 (by omega) d0 (by omega)
          have hfew : (pickB s a b d).1.gates.length ≤ 600 := pickB_few gd a0 (by omega) b0 (by omega) d0 (by omega)
          generalize pickB s a b d = R at *
          obtain ⟨⟨rm, rg⟩, re⟩ := R
          obtain ⟨m, gs⟩ := s
          dsimp only at *
          have CO := Lib.hid (show ∀ A2 c2 base W, W.ownsRow base 52 2 (.slice A2 gs.length c2) gs.length (fl gs) → base ≤ W.heap.size → Calls Try.prog 61 #[.agg #[.int .i64 m, .slice A2 gs.length c2], .int .i64 a, .int .i64 b, .int .i64 d] W (fun e w' => ∃ m7 A n c, e = .returned (.tuple #[.agg #[.int .i64 m7, .slice A n c], .int .i64 re]) ∧ (0 ≤ re → m7 = rm ∧ n = rg.length ∧ w'.ownsRow base 52 2 (.slice A n c) n (fl rg)) ∧ Only (bl (.slice A2 gs.length c2)) W w' ∧ ∀ x ∈ bl (.slice A n c), x ∈ bl (.slice A2 gs.length c2) ∨ W.heap.size ≤ x) from fun A2 c2 base W ho hb => CO.out A2 c2 base W ho hb)
          clear hE k1 h1 ok gd hnn LE q0 a0 a1 q1 b0 b1 q2 d0 d1
          by_cases hre : re < 0
          · have hT : toldB (⟨rm, rg⟩, re) = (⟨0, []⟩, -1) := if_pos hre
            rw [hT]
            clear hT hlo
            dsimp only
            go_enter Try.func30, Try.ntmps30
            go_wp2_with fail
            refine (CK.out _ B0).mono ?_
            rintro e w1 ⟨rfl, b1⟩
            obtain ⟨B1, kb1, kr1⟩ := BX.out _ b1
            have x0 := kb1.cell 0
            have x1 := kb1.cell 1
            have f0 := kr1.frozen 0
            have f1 := kr1.frozen 1
            have y0 := kr1.cell 0
            have y1 := kr1.cell 1
            simp only [List.getElem?_cons_zero, List.getElem?_cons_succ] at x0 x1 y0 y1
            go_wp2_with fail
            refine (L0.out _).mono ?_
            rintro e w2 ⟨rfl, c2⟩
            have b2 := b1.trans (c2.mono b1.size)
            obtain ⟨B2, kb2, kr2⟩ := BX.out _ b2
            have x0 := kb2.cell 0
            have x1 := kb2.cell 1
            have f0 := kr2.frozen 0
            have f1 := kr2.frozen 1
            have y0 := kr2.cell 0
            have y1 := kr2.cell 1
            simp only [List.getElem?_cons_zero, List.getElem?_cons_succ] at x0 x1 y0 y1
            go_wp2_with fail
            refine (L1.out _).mono ?_
            rintro e w3 ⟨rfl, c3⟩
            have b3 := b2.trans (c3.mono b2.size)
            obtain ⟨B3, kb3, kr3⟩ := BX.out _ b3
            have x0 := kb3.cell 0
            have x1 := kb3.cell 1
            have f0 := kr3.frozen 0
            have f1 := kr3.frozen 1
            have y0 := kr3.cell 0
            have y1 := kr3.cell 1
            simp only [List.getElem?_cons_zero, List.getElem?_cons_succ] at x0 x1 y0 y1
            go_wp2_with fail
            refine (L2.out _).mono ?_
            rintro e w4 ⟨rfl, c4⟩
            have b4 := b3.trans (c4.mono b3.size)
            obtain ⟨B4, kb4, kr4⟩ := BX.out _ b4
            have x0 := kb4.cell 0
            have x1 := kb4.cell 1
            have f0 := kr4.frozen 0
            have f1 := kr4.frozen 1
            have y0 := kr4.cell 0
            have y1 := kr4.cell 1
            simp only [List.getElem?_cons_zero, List.getElem?_cons_succ] at x0 x1 y0 y1
            go_wp2_with fail
            refine (CP.out _ B4).mono ?_
            rintro e w6 ⟨A6, c6, rfl, ho6, cc6⟩
            have b6 := b4.trans (cc6.mono b4.size)
            go_wp2_with fail
            refine (CO.out A6 c6 w4.heap.size w6 ho6 cc6.size).mono ?_
            rintro e w7 ⟨m7, A7, n7, c7, rfl, how7, on7, lo7⟩
            have d7 : Below w4.heap.size w6 w7 := on7.below cc6.size fun x hx => (ho6.lt x (mem_bl.1 hx)).1
            have b7 := b6.trans (d7.mono b4.size)
            obtain ⟨B7, kb7, kr7⟩ := BX.out _ b7
            have x0 := kb7.cell 0
            have x1 := kb7.cell 1
            have f0 := kr7.frozen 0
            have f1 := kr7.frozen 1
            have y0 := kr7.cell 0
            have y1 := kr7.cell 1
            simp only [List.getElem?_cons_zero, List.getElem?_cons_succ] at x0 x1 y0 y1
            go_wp2_with fail
            refine (l7Told_no m7 A7 n7 c7 re _ hre).mono ?_
            rintro e w9 ⟨rfl, d9⟩
            have b9 := b7.trans ((below_call d9).mono b7.size)
            obtain ⟨B9, kb9, kr9⟩ := BX.out _ b9
            have x0 := kb9.cell 0
            have x1 := kb9.cell 1
            have f0 := kr9.frozen 0
            have f1 := kr9.frozen 1
            have y0 := kr9.cell 0
            have y1 := kr9.cell 1
            simp only [List.getElem?_cons_zero, List.getElem?_cons_succ] at x0 x1 y0 y1
            go_wp2
            have K2 := (kr9.set 0 (.int .i64 0)).set 1 (.slice none 0 0)
            have b8 := (B9.setCell (p := ⟨w.heap.size + 1, 0, none⟩) (Nat.le_succ _) (.int .i64 0)).setCell (p := ⟨w.heap.size + 1, 1, none⟩) (Nat.le_succ _) (.slice none 0 0)
            generalize (w9.setCell ⟨w.heap.size + 1, 0, none⟩ (.int .i64 0)).setCell ⟨w.heap.size + 1, 1, none⟩ (.slice none 0 0) = w8 at K2 b8 ⊢
            have r0 := K2.cell 0
            have r1 := K2.cell 1
            simp only [List.set_cons_zero, List.set_cons_succ, List.getElem?_cons_zero, List.getElem?_cons_succ] at r0 r1
            exact bodyPost_ret (v := .tuple #[.agg #[.int .i64 0, .slice none 0 0], .int .i64 (-1)]) (by simp [results, Try.results30, go_sem, r0, r1]) rfl (gives_ci_nil b8)
          · have hT : toldB (⟨rm, rg⟩, re) = (⟨rm, rg⟩, re) := if_neg hre
            rw [hT]
            have hre : 0 ≤ re := by omega
            clear hT hlo
            dsimp only
            go_enter Try.func30, Try.ntmps30
            go_wp2_with fail
            refine (CK.out _ B0).mono ?_
            rintro e w1 ⟨rfl, b1⟩
            obtain ⟨B1, kb1, kr1⟩ := BX.out _ b1
            have x0 := kb1.cell 0
            have x1 := kb1.cell 1
            have f0 := kr1.frozen 0
            have f1 := kr1.frozen 1
            have y0 := kr1.cell 0
            have y1 := kr1.cell 1
            simp only [List.getElem?_cons_zero, List.getElem?_cons_succ] at x0 x1 y0 y1
            go_wp2_with fail
            refine (L0.out _).mono ?_
            rintro e w2 ⟨rfl, c2⟩
            have b2 := b1.trans (c2.mono b1.size)
            obtain ⟨B2, kb2, kr2⟩ := BX.out _ b2
            have x0 := kb2.cell 0
            have x1 := kb2.cell 1
            have f0 := kr2.frozen 0
            have f1 := kr2.frozen 1
            have y0 := kr2.cell 0
            have y1 := kr2.cell 1
            simp only [List.getElem?_cons_zero, List.getElem?_cons_succ] at x0 x1 y0 y1
            go_wp2_with fail
            refine (L1.out _).mono ?_
            rintro e w3 ⟨rfl, c3⟩
            have b3 := b2.trans (c3.mono b2.size)
            obtain ⟨B3, kb3, kr3⟩ := BX.out _ b3
            have x0 := kb3.cell 0
            have x1 := kb3.cell 1
            have f0 := kr3.frozen 0
            have f1 := kr3.frozen 1
            have y0 := kr3.cell 0
            have y1 := kr3.cell 1
            simp only [List.getElem?_cons_zero, List.getElem?_cons_succ] at x0 x1 y0 y1
            go_wp2_with fail
            refine (L2.out _).mono ?_
            rintro e w4 ⟨rfl, c4⟩
            have b4 := b3.trans (c4.mono b3.size)
            obtain ⟨B4, kb4, kr4⟩ := BX.out _ b4
            have x0 := kb4.cell 0
            have x1 := kb4.cell 1
            have f0 := kr4.frozen 0
            have f1 := kr4.frozen 1
            have y0 := kr4.cell 0
            have y1 := kr4.cell 1
            simp only [List.getElem?_cons_zero, List.getElem?_cons_succ] at x0 x1 y0 y1
            go_wp2_with fail
            refine (CP.out _ B4).mono ?_
            rintro e w6 ⟨A6, c6, rfl, ho6, cc6⟩
            have b6 := b4.trans (cc6.mono b4.size)
            go_wp2_with fail
            refine (CO.out A6 c6 w4.heap.size w6 ho6 cc6.size).mono ?_
            rintro e w7 ⟨m7, A7, n7, c7, rfl, how7, on7, lo7⟩
            have d7 : Below w4.heap.size w6 w7 := on7.below cc6.size fun x hx => (ho6.lt x (mem_bl.1 hx)).1
            have b7 := b6.trans (d7.mono b4.size)
            obtain ⟨B7, kb7, kr7⟩ := BX.out _ b7
            have x0 := kb7.cell 0
            have x1 := kb7.cell 1
            have f0 := kr7.frozen 0
            have f1 := kr7.frozen 1
            have y0 := kr7.cell 0
            have y1 := kr7.cell 1
            simp only [List.getElem?_cons_zero, List.getElem?_cons_succ] at x0 x1 y0 y1
            obtain ⟨e7, e7b, ho7⟩ := how7 hre
            obtain rfl := e7
            obtain rfl := e7b
            clear how7
            go_wp2_with fail
            refine (l7Told_yes m7 A7 rg.length c7 re _ (by omega)).mono ?_
            rintro e w9 ⟨rfl, d9⟩
            have d9 := below_call d9
            have b9 := b7.trans (d9.mono b7.size)
            obtain ⟨B9, kb9, kr9⟩ := BX.out _ b9
            have x0 := kb9.cell 0
            have x1 := kb9.cell 1
            have f0 := kr9.frozen 0
            have f1 := kr9.frozen 1
            have y0 := kr9.cell 0
            have y1 := kr9.cell 1
            simp only [List.getElem?_cons_zero, List.getElem?_cons_succ] at x0 x1 y0 y1
            have hz9 : w.heap.size + 1 < w4.heap.size := kr4.lt
            have o9 := own_below ho7 d9
            have n9 : (Value.slice A7 rg.length c7).ownBlock ≠ some (w.heap.size + 1) := fun e => by have := (ho7.lt _ e).1; omega
            go_wp2
            have K2 := (kr9.set 0 (.int .i64 m7)).set 1 (.slice A7 rg.length c7)
            have o8 := own_away (own_away o9 (p := ⟨w.heap.size + 1, 0, none⟩) (.int .i64 m7) n9) (p := ⟨w.heap.size + 1, 1, none⟩) (.slice A7 rg.length c7) n9
            have b8 := (B9.setCell (p := ⟨w.heap.size + 1, 0, none⟩) (Nat.le_succ _) (.int .i64 m7)).setCell (p := ⟨w.heap.size + 1, 1, none⟩) (Nat.le_succ _) (.slice A7 rg.length c7)
            generalize (w9.setCell ⟨w.heap.size + 1, 0, none⟩ (.int .i64 m7)).setCell ⟨w.heap.size + 1, 1, none⟩ (.slice A7 rg.length c7) = w8 at K2 b8 o8 ⊢
            have r0 := K2.cell 0
            have r1 := K2.cell 1
            simp only [List.set_cons_zero, List.set_cons_succ, List.getElem?_cons_zero, List.getElem?_cons_succ] at r0 r1
            obtain ⟨fp, q1, q2, q3⟩ := own_flat (α := Ga) o8 rfl (by unfold maxLen; have := hfew; omega)
            exact bodyPost_ret (v := .tuple #[.agg #[.int .i64 m7, .slice A7 rg.length c7], .int .i64 re]) (by simp [results, Try.results30, go_sem, r0, r1]) rfl ⟨A7, _, c7, fp, rfl, q1, q2, fun x hx => by have := q3 x hx; have := kb4.lt; omega, b8⟩
set_option maxRecDepth 100000 in
set_option maxHeartbeats 2000000 in
theorem addPick_impl (s : Ci) (a b d : Int) (A : Option Addr) (n c : Nat) (w : World) (h1 : Mem.rd w w.heap.size [.slice A n c] s.gates) :
    Calls Try.prog 31 #[.agg #[.int .i64 s.ins, .slice A n c], .int .i64 a, .int .i64 b, .int .i64 d] w (GivesCiN w (addPickB s a b d).1 (addPickB s a b d).2) := by
  obtain rfl : s.gates.length = n := rd_len h1
  have HE := Lib.hid (fun W (B : Below w.heap.size w W) => hasEdges_any s A s.gates.length c (some ⟨W.heap.size, 0, none⟩) 3 3 [a, b, d] (W.alloc (.cells #[.int .i64 a, .int .i64 b, .int .i64 d] 3)) (Mem.rd_on_alloc (Mem.rd_on h1 B) _) (rd_new3 W a b d))
  have BX := Lib.hid (two_boxes w #[.int .i64 s.ins, .slice A s.gates.length c] #[.int .i64 0, .slice none 0 0] 29 29)
  have B0 : Below w.heap.size w ((w.alloc (.cells #[.int .i64 s.ins, .slice A s.gates.length c] 29)).alloc (.cells #[.int .i64 0, .slice none 0 0] 29)) := (below_alloc w _).alloc (by simp) _
  cases k1 : (ckB s && areE s [a, b, d])
  · have hE : addPickB s a b d = (⟨0, []⟩, -1) := addB_no k1
    rw [hE]
    rw [k1] at HE
    obtain ⟨m, gs⟩ := s
    dsimp only at *
    clear hE k1 h1
    have HE0 := HE.out _ B0
    simp only [World.size_alloc] at HE0
    go_enter Try.func31, Try.ntmps31
    go_wp2_with fail
    refine HE0.mono ?_
    rintro e w1 ⟨rfl, b1'⟩
    have b1 := below_call b1'
    obtain ⟨B1, kb1, kr1⟩ := BX.out _ b1
    have x0 := kb1.cell 0
    have x1 := kb1.cell 1
    have f0 := kr1.frozen 0
    have f1 := kr1.frozen 1
    have y0 := kr1.cell 0
    have y1 := kr1.cell 1
    simp only [List.getElem?_cons_zero, List.getElem?_cons_succ] at x0 x1 y0 y1
    go_wp2
    have K2 := (kr1.set 0 (.int .i64 0)).set 1 (.slice none 0 0)
    have b8 := (B1.setCell (p := ⟨w.heap.size + 1, 0, none⟩) (Nat.le_succ _) (.int .i64 0)).setCell (p := ⟨w.heap.size + 1, 1, none⟩) (Nat.le_succ _) (.slice none 0 0)
    generalize (w1.setCell ⟨w.heap.size + 1, 0, none⟩ (.int .i64 0)).setCell ⟨w.heap.size + 1, 1, none⟩ (.slice none 0 0) = w8 at K2 b8 ⊢
    have r0 := K2.cell 0
    have r1 := K2.cell 1
    simp only [List.set_cons_zero, List.set_cons_succ, List.getElem?_cons_zero, List.getElem?_cons_succ] at r0 r1
    exact bodyPost_ret (v := .tuple #[.agg #[.int .i64 0, .slice none 0 0], .int .i64 (-1)]) (by simp [results, Try.results31, go_sem, r0, r1]) rfl (gives_ci_nil b8)
  · have hE : addPickB s a b d = toldB (pickB s a b d) := addB_yes k1
    rw [hE]
    rw [k1] at HE
    have k2 := k1
    rw [Bool.and_eq_true] at k2
    have ok := ckB_iff.1 k2.1
    have gd := Gd.of_ok ok
    have hnn := Ci.nodes_le ok.lo ok.hi ok.few
    obtain ⟨a0, a1⟩ := isE_iff.1 (List.all_eq_true.1 k2.2 a (by simp))
    obtain ⟨b0, b1⟩ := isE_iff.1 (List.all_eq_true.1 k2.2 b (by simp))
    obtain ⟨d0, d1⟩ := isE_iff.1 (List.all_eq_true.1 k2.2 d (by simp))
    have MO := Lib.hid (fun W (B : Below w.heap.size w W) => makerOf_any s A s.gates.length c W (Mem.rd_on h1 B) gd)
    have CO := Lib.hid (fun base g W (hM : MkAt W base g s false) (hb : base ≤ W.heap.size) => pick_mk s false a b d base g W hM hb gd a0 (by omega) b0 (by omega) d0 (by omega))
    have hlo : -1 ≤ (pickB s a b d).2 := pickB_lo gd a0 (by omega) b0 (by omega) d0 (by omega)
    have hfew : (pickB s a b d).1.gates.length ≤ 600 := pickB_few gd a0 (by omega) b0 (by omega) d0 (by omega)
    generalize pickB s a b d = R at *
    obtain ⟨⟨rm, rg⟩, re⟩ := R
    obtain ⟨m, gs⟩ := s
    dsimp only at *
    clear hE k1 k2 h1 ok gd hnn a0 a1 b0 b1 d0 d1
    by_cases hre : re < 0
    · have hT : toldB (⟨rm, rg⟩, re) = (⟨0, []⟩, -1) := if_pos hre
      rw [hT]
      clear hT hlo
      dsimp only
      have HE0 := HE.out _ B0
      simp only [World.size_alloc] at HE0
      go_enter Try.func31, Try.ntmps31
      go_wp2_with fail
      refine HE0.mono ?_
      rintro e w1 ⟨rfl, b1'⟩
      have b1 := below_call b1'
      obtain ⟨B1, kb1, kr1⟩ := BX.out _ b1
      have x0 := kb1.cell 0
      have x1 := kb1.cell 1
      have f0 := kr1.frozen 0
      have f1 := kr1.frozen 1
      have y0 := kr1.cell 0
      have y1 := kr1.cell 1
      simp only [List.getElem?_cons_zero, List.getElem?_cons_succ] at x0 x1 y0 y1
      go_wp2_with fail
      refine (MO.out _ B1).mono ?_
      rintro e w6 ⟨g, rfl, hm6, cc6⟩
      have b6 := b1.trans (cc6.mono b1.size)
      go_wp2_with fail
      refine (CO.out w1.heap.size g w6 hm6 cc6.size).mono ?_
      rintro e w7 ⟨x7, c7, f7, rfl, hm7, hg7, q0, q1, d7, u7, v7⟩
      have b7 := b6.trans (d7.mono b1.size)
      obtain ⟨B7, kb7, kr7⟩ := BX.out _ b7
      have x0 := kb7.cell 0
      have x1 := kb7.cell 1
      have f0 := kr7.frozen 0
      have f1 := kr7.frozen 1
      have y0 := kr7.cell 0
      have y1 := kr7.cell 1
      simp only [List.getElem?_cons_zero, List.getElem?_cons_succ] at x0 x1 y0 y1
      obtain rfl : f7 = true := v7 (.inr hre)
      go_wp2_with fail
      refine (told_no c7 x7 w1.heap.size g _ hm7).mono ?_
      rintro e w9 ⟨rfl, d9⟩
      have b9 := b7.trans (d9.mono b7.size)
      obtain ⟨B9, kb9, kr9⟩ := BX.out _ b9
      have x0 := kb9.cell 0
      have x1 := kb9.cell 1
      have f0 := kr9.frozen 0
      have f1 := kr9.frozen 1
      have y0 := kr9.cell 0
      have y1 := kr9.cell 1
      simp only [List.getElem?_cons_zero, List.getElem?_cons_succ] at x0 x1 y0 y1
      go_wp2
      have K2 := (kr9.set 0 (.int .i64 0)).set 1 (.slice none 0 0)
      have b8 := (B9.setCell (p := ⟨w.heap.size + 1, 0, none⟩) (Nat.le_succ _) (.int .i64 0)).setCell (p := ⟨w.heap.size + 1, 1, none⟩) (Nat.le_succ _) (.slice none 0 0)
      generalize (w9.setCell ⟨w.heap.size + 1, 0, none⟩ (.int .i64 0)).setCell ⟨w.heap.size + 1, 1, none⟩ (.slice none 0 0) = w8 at K2 b8 ⊢
      have r0 := K2.cell 0
      have r1 := K2.cell 1
      simp only [List.set_cons_zero, List.set_cons_succ, List.getElem?_cons_zero, List.getElem?_cons_succ] at r0 r1
      exact bodyPost_ret (v := .tuple #[.agg #[.int .i64 0, .slice none 0 0], .int .i64 (-1)]) (by simp [results, Try.results31, go_sem, r0, r1]) rfl (gives_ci_nil b8)
    · have hT : toldB (⟨rm, rg⟩, re) = (⟨rm, rg⟩, re) := if_neg hre
      rw [hT]
      have hre : 0 ≤ re := by omega
      clear hT hlo
      dsimp only
      have HE0 := HE.out _ B0
      simp only [World.size_alloc] at HE0
      go_enter Try.func31, Try.ntmps31
      go_wp2_with fail
      refine HE0.mono ?_
      rintro e w1 ⟨rfl, b1'⟩
      have b1 := below_call b1'
      obtain ⟨B1, kb1, kr1⟩ := BX.out _ b1
      have x0 := kb1.cell 0
      have x1 := kb1.cell 1
      have f0 := kr1.frozen 0
      have f1 := kr1.frozen 1
      have y0 := kr1.cell 0
      have y1 := kr1.cell 1
      simp only [List.getElem?_cons_zero, List.getElem?_cons_succ] at x0 x1 y0 y1
      go_wp2_with fail
      refine (MO.out _ B1).mono ?_
      rintro e w6 ⟨g, rfl, hm6, cc6⟩
      have b6 := b1.trans (cc6.mono b1.size)
      go_wp2_with fail
      refine (CO.out w1.heap.size g w6 hm6 cc6.size).mono ?_
      rintro e w7 ⟨x7, c7, f7, rfl, hm7, hg7, q0, q1, d7, u7, v7⟩
      have b7 := b6.trans (d7.mono b1.size)
      obtain ⟨B7, kb7, kr7⟩ := BX.out _ b7
      have x0 := kb7.cell 0
      have x1 := kb7.cell 1
      have f0 := kr7.frozen 0
      have f1 := kr7.frozen 1
      have y0 := kr7.cell 0
      have y1 := kr7.cell 1
      simp only [List.getElem?_cons_zero, List.getElem?_cons_succ] at x0 x1 y0 y1
      obtain ⟨e7, e8, e9⟩ := u7 rfl hre
      subst e7
      subst e8
      subst e9
      go_wp2_with fail
      refine (told_yes ⟨rm, rg⟩ x7 w1.heap.size g _ hm7).mono ?_
      rintro e w9 ⟨A7, c7, rfl, o9, d9⟩
      have b9 := b7.trans (d9.mono b7.size)
      obtain ⟨B9, kb9, kr9⟩ := BX.out _ b9
      have x0 := kb9.cell 0
      have x1 := kb9.cell 1
      have f0 := kr9.frozen 0
      have f1 := kr9.frozen 1
      have y0 := kr9.cell 0
      have y1 := kr9.cell 1
      simp only [List.getElem?_cons_zero, List.getElem?_cons_succ] at x0 x1 y0 y1
      have hz9 : w.heap.size + 1 < w1.heap.size := kr1.lt
      dsimp only at o9
      have n9 : (Value.slice A7 rg.length c7).ownBlock ≠ some (w.heap.size + 1) := fun e => by have := (o9.lt _ e).1; omega
      go_wp2
      have K2 := (kr9.set 0 (.int .i64 rm)).set 1 (.slice A7 rg.length c7)
      have o8 := own_away (own_away o9 (p := ⟨w.heap.size + 1, 0, none⟩) (.int .i64 rm) n9) (p := ⟨w.heap.size + 1, 1, none⟩) (.slice A7 rg.length c7) n9
      have b8 := (B9.setCell (p := ⟨w.heap.size + 1, 0, none⟩) (Nat.le_succ _) (.int .i64 rm)).setCell (p := ⟨w.heap.size + 1, 1, none⟩) (Nat.le_succ _) (.slice A7 rg.length c7)
      generalize (w9.setCell ⟨w.heap.size + 1, 0, none⟩ (.int .i64 rm)).setCell ⟨w.heap.size + 1, 1, none⟩ (.slice A7 rg.length c7) = w8 at K2 b8 o8 ⊢
      have r0 := K2.cell 0
      have r1 := K2.cell 1
      simp only [List.set_cons_zero, List.set_cons_succ, List.getElem?_cons_zero, List.getElem?_cons_succ] at r0 r1
      obtain ⟨fp, q1, q2, q3⟩ := own_flat (α := Ga) o8 rfl (by unfold maxLen; have := hfew; omega)
      exact bodyPost_ret (v := .tuple #[.agg #[.int .i64 rm, .slice A7 rg.length c7], .int .i64 x7]) (by simp [results, Try.results31, go_sem, r0, r1]) rfl ⟨A7, _, c7, fp, rfl, q1, q2, fun x hx => by have := q3 x hx; have := kb1.lt; omega, b8⟩
noncomputable def addPick1 (s : Ci) (a b d : Int) : Ci := (addPickB s a b d).1
noncomputable def addPick2 (s : Ci) (a b d : Int) : Int := (addPickB s a b d).2
theorem addPick_specR (s : Ci) (a b d : Int) (A : Option Addr) (n c : Nat) (w : World) (h1 : Mem.rd w w.heap.size [.slice A n c] s.gates) :
    Calls Try.prog 30 #[.agg #[.int .i64 s.ins, .slice A n c], .int .i64 a, .int .i64 b, .int .i64 d] w (GivesCiN w (addPick1 s a b d) (addPick2 s a b d)) := addPick_spec s a b d A n c w h1
theorem addPick_implR (s : Ci) (a b d : Int) (A : Option Addr) (n c : Nat) (w : World) (h1 : Mem.rd w w.heap.size [.slice A n c] s.gates) :
    Calls Try.prog 31 #[.agg #[.int .i64 s.ins, .slice A n c], .int .i64 a, .int .i64 b, .int .i64 d] w (GivesCiN w (addPick1 s a b d) (addPick2 s a b d)) := addPick_impl s a b d A n c w h1
theorem addPick1_len (s : Ci) (a b d : Int) : (addPick1 s a b d).gates.length ≤ 1048576 := by
  unfold addPick1 addPickB addB
  split
  · rename_i k1
    rw [Bool.and_eq_true] at k1
    have ok := ckB_iff.1 k1.1
    have hnn := Ci.nodes_le ok.lo ok.hi ok.few
    obtain ⟨a0, a1⟩ := isE_iff.1 (List.all_eq_true.1 k1.2 a (by simp))
    obtain ⟨b0, b1⟩ := isE_iff.1 (List.all_eq_true.1 k1.2 b (by simp))
    obtain ⟨d0, d1⟩ := isE_iff.1 (List.all_eq_true.1 k1.2 d (by simp))
    have hfew : (pickB s a b d).1.gates.length ≤ 600 := pickB_few (Gd.of_ok ok) a0 (by omega) b0 (by omega) d0 (by omega)
    unfold toldB
    split
    · simp
    · exact Nat.le_trans hfew (by omega)
  · simp

end Go.Proofs.Ytmimefcljdllcaa
