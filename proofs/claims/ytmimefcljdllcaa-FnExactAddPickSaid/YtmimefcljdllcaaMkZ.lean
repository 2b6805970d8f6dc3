/- Circuits that are made: AddAnd and AddOr, in the model. -/
import Derived.Test.YtmimefcljdllcaaMkX
namespace Go.Proofs.Ytmimefcljdllcaa
open Go.RowKit

/-- The call gives a circuit of its own and an edge. -/
def GivesCiN (w : World) (s : Ci) (x : Int) (e : Ending) (w' : World) : Prop :=
  ∃ A1 n1 c1 f1, e = .returned (.tuple #[.agg #[.int .i64 s.ins, .slice A1 n1 c1], .int .i64 x]) ∧ Mem.own w' f1 [.slice A1 n1 c1] s.gates ∧ f1.Nodup ∧ (∀ b ∈ f1, w.heap.size ≤ b) ∧ Below w.heap.size w w'
theorem gives_ci_nil {w w' : World} (b : Below w.heap.size w w') : GivesCiN w ⟨0, []⟩ (-1) (.returned (.tuple #[.agg #[.int .i64 0, .slice none 0 0], .int .i64 (-1)])) w' :=
  ⟨none, 0, 0, [], rfl, ⟨none, 0, 0, rfl, Nat.zero_le _, rfl, .inl ⟨rfl, rfl⟩⟩, List.nodup_nil, by simp, b⟩
/-- An edge that is added, if these are edges. -/
noncomputable def addB (f : Ci → Ci × Int) (s : Ci) (l : List Int) : Ci × Int := if (ckB s && areE s l) = true then toldB (f s) else (⟨0, []⟩, -1)
theorem addB_no {f : Ci → Ci × Int} {s : Ci} {l : List Int} (h : (ckB s && areE s l) = false) : addB f s l = (⟨0, []⟩, -1) := if_neg (by rw [h]; simp)
theorem addB_yes {f : Ci → Ci × Int} {s : Ci} {l : List Int} (h : (ckB s && areE s l) = true) : addB f s l = toldB (f s) := if_pos h
theorem andB_lo {s : Ci} {a b : Int} (h : Gd s) (a0 : 0 ≤ a) (a1 : a < 2000) (b0 : 0 ≤ b) (b1 : b < 2000) : -1 ≤ (andB s a b).2 := (andB_gd h a0 a1 b0 b1).2.2.1
theorem orB_lo {s : Ci} {a b : Int} (h : Gd s) (a0 : 0 ≤ a) (a1 : a < 2000) (b0 : 0 ≤ b) (b1 : b < 2000) : -1 ≤ (orB s a b).2 := by
  have na := notE_lo (e := a) (by omega)
  have nb := notE_lo (e := b) (by omega)
  exact (notE_lo (andB_gd h (na.2.2 a0) (notE_hi a1) (nb.2.2 b0) (notE_hi b1)).2.2.1).1
theorem andB_few {s : Ci} {a b : Int} (h : Gd s) (a0 : 0 ≤ a) (a1 : a < 2000) (b0 : 0 ≤ b) (b1 : b < 2000) : (andB s a b).1.gates.length ≤ 600 := (andB_gd h a0 a1 b0 b1).1.few
theorem orB_few {s : Ci} {a b : Int} (h : Gd s) (a0 : 0 ≤ a) (a1 : a < 2000) (b0 : 0 ≤ b) (b1 : b < 2000) : (orB s a b).1.gates.length ≤ 600 := by
  have na := notE_lo (e := a) (by omega)
  have nb := notE_lo (e := b) (by omega)
  exact (andB_gd h (na.2.2 a0) (notE_hi a1) (nb.2.2 b0) (notE_hi b1)).1.few
theorem l7And_w (s : Ci) (A : Option Addr) (c : Nat) (a b : Int) (base : Nat) (w : World) (ho : w.ownsRow base 52 2 (.slice A s.gates.length c) s.gates.length (fl s.gates)) (hb : base ≤ w.heap.size) (a0 : 0 ≤ a) (a1 : a < 2000) (b0 : 0 ≤ b) (b1 : b < 2000) (h : Gd s) :
    Calls Try.prog 52 #[.agg #[.int .i64 s.ins, .slice A s.gates.length c], .int .i64 a, .int .i64 b] w (GivesCW base (bl (.slice A s.gates.length c)) w (andB s a b)) := (l7And_any s A c a b base w ho hb a0 a1 b0 b1 h).mono fun _ _ q => q.cw
theorem l7Or_w (s : Ci) (A : Option Addr) (c : Nat) (a b : Int) (base : Nat) (w : World) (ho : w.ownsRow base 52 2 (.slice A s.gates.length c) s.gates.length (fl s.gates)) (hb : base ≤ w.heap.size) (a0 : 0 ≤ a) (a1 : a < 2000) (b0 : 0 ≤ b) (b1 : b < 2000) (h : Gd s) :
    Calls Try.prog 59 #[.agg #[.int .i64 s.ins, .slice A s.gates.length c], .int .i64 a, .int .i64 b] w (GivesCW base (bl (.slice A s.gates.length c)) w (orB s a b)) := (l7Or_any s A c a b base w ho hb a0 a1 b0 b1 h).mono fun _ _ q => q.cw

theorem l7Told_no (m : Int) (A : Option Addr) (n c : Nat) (x : Int) (w : World) (hx : x < 0) :
    Calls Try.prog 54 #[.agg #[.int .i64 m, .slice A n c], .int .i64 x] w (fun e w' => e = .returned (.tuple #[.agg #[.int .i64 0, .slice none 0 0], .int .i64 (-1)]) ∧ Below w.heap.size w w') := by
  go_enter Try.func54, Try.ntmps54
  go_wp2
  exact bodyPost_ret (v := .tuple #[.agg #[.int .i64 0, .slice none 0 0], .int .i64 (-1)]) (by simp [results, Try.results54, go_sem]) rfl ⟨rfl, ((Below.refl _ w).alloc (Nat.le_refl _) _).alloc (by simp) _⟩
theorem l7Told_yes (m : Int) (A : Option Addr) (n c : Nat) (x : Int) (w : World) (hx : ¬ x < 0) :
    Calls Try.prog 54 #[.agg #[.int .i64 m, .slice A n c], .int .i64 x] w (fun e w' => e = .returned (.tuple #[.agg #[.int .i64 m, .slice A n c], .int .i64 x]) ∧ Below w.heap.size w w') := by
  go_enter Try.func54, Try.ntmps54
  go_wp2
  exact bodyPost_ret (v := .tuple #[.agg #[.int .i64 m, .slice A n c], .int .i64 x]) (by simp [results, Try.results54, go_sem]) rfl ⟨rfl, ((Below.refl _ w).alloc (Nat.le_refl _) _).alloc (by simp) _⟩

noncomputable def addAndB (s : Ci) (a b : Int) : Ci × Int := addB (fun s => andB s a b) s [a, b]
set_option maxRecDepth 100000 in
set_option maxHeartbeats 2000000 in
theorem addAnd_spec (s : Ci) (a b : Int) (A : Option Addr) (n c : Nat) (w : World) (h1 : Mem.rd w w.heap.size [.slice A n c] s.gates) :
    Calls Try.prog 25 #[.agg #[.int .i64 s.ins, .slice A n c], .int .i64 a, .int .i64 b] w (GivesCiN w (addAndB s a b).1 (addAndB s a b).2) := by
  obtain rfl : s.gates.length = n := rd_len h1
  have CK := Lib.hid (fun W (B : Below w.heap.size w W) => ckValid_spec s A s.gates.length c W (Mem.rd_on h1 B))
  have BX := Lib.hid (two_boxes w #[.int .i64 s.ins, .slice A s.gates.length c] #[.int .i64 0, .slice none 0 0] 29 29)
  have B0 : Below w.heap.size w ((w.alloc (.cells #[.int .i64 s.ins, .slice A s.gates.length c] 29)).alloc (.cells #[.int .i64 0, .slice none 0 0] 29)) := (below_alloc w _).alloc (by simp) _
  cases k1 : ckB s
  · have hE : addAndB s a b = (⟨0, []⟩, -1) := addB_no (by rw [k1]; rfl)
    rw [hE]
    rw [k1] at CK
    obtain ⟨m, gs⟩ := s
    dsimp only at *
    clear hE k1 h1
    go_enter Try.func25, Try.ntmps25
    go_wp2_with fail
    refine (CK.out _ B0).mono ?_
    rintro e w1 ⟨rfl, b1⟩
    obtain ⟨B1, kb1, kr1⟩ := BX.out _ b1
    have x0 := kb1.cell 0
    have x1 := kb1.cell 1
    have f0 := kr1.frozen 0
    have f1 := kr1.frozen 1
    have y0 := kr1.cell 0
    have y1 := kr1.cell 1
    simp only [List.getElem?_cons_zero, List.getElem?_cons_succ] at x0 x1 y0 y1
    go_wp2
    have K2 := (kr1.set 0 (.int .i64 0)).set 1 (.slice none 0 0)
    have b8 := (B1.setCell (p := ⟨w.heap.size + 1, 0, none⟩) (Nat.le_succ _) (.int .i64 0)).setCell (p := ⟨w.heap.size + 1, 1, none⟩) (Nat.le_succ _) (.slice none 0 0)
    generalize (w1.setCell ⟨w.heap.size + 1, 0, none⟩ (.int .i64 0)).setCell ⟨w.heap.size + 1, 1, none⟩ (.slice none 0 0) = w8 at K2 b8 ⊢
    have r0 := K2.cell 0
    have r1 := K2.cell 1
    simp only [List.set_cons_zero, List.set_cons_succ, List.getElem?_cons_zero, List.getElem?_cons_succ] at r0 r1
    exact bodyPost_ret (v := .tuple #[.agg #[.int .i64 0, .slice none 0 0], .int .i64 (-1)]) (by simp [results, Try.results25, go_sem, r0, r1]) rfl (gives_ci_nil b8)
  · have ok := ckB_iff.1 k1
    have LE := Lib.hid (fun x W => l7Edge_any s A c x W ok.lo ok.hi ok.few)
    have gd := Gd.of_ok ok
    have hnn := Ci.nodes_le ok.lo ok.hi ok.few
    rw [k1] at CK
    have L0 := Lib.hid (fun W => LE.out a W)
    cases q0 : isE s a
    · have hE : addAndB s a b = (⟨0, []⟩, -1) := addB_no (by rw [k1]; simp [areE, q0])
      rw [hE]
      rw [q0] at L0
      obtain ⟨m, gs⟩ := s
      dsimp only at *
      clear hE k1 h1 ok gd hnn LE q0
      go_enter Try.func25, Try.ntmps25
      go_wp2_with fail
      refine (CK.out _ B0).mono ?_
      rintro e w1 ⟨rfl, b1⟩
      obtain ⟨B1, kb1, kr1⟩ := BX.out _ b1
      have x0 := kb1.cell 0
      have x1 := kb1.cell 1
      have f0 := kr1.frozen 0
      have f1 := kr1.frozen 1
      have y0 := kr1.cell 0
      have y1 := kr1.cell 1
      simp only [List.getElem?_cons_zero, List.getElem?_cons_succ] at x0 x1 y0 y1
      go_wp2_with fail
      refine (L0.out _).mono ?_
      rintro e w2 ⟨rfl, c2⟩
      have b2 := b1.trans (c2.mono b1.size)
      obtain ⟨B2, kb2, kr2⟩ := BX.out _ b2
      have x0 := kb2.cell 0
      have x1 := kb2.cell 1
      have f0 := kr2.frozen 0
      have f1 := kr2.frozen 1
      have y0 := kr2.cell 0
      have y1 := kr2.cell 1
      simp only [List.getElem?_cons_zero, List.getElem?_cons_succ] at x0 x1 y0 y1
      go_wp2
      have K2 := (kr2.set 0 (.int .i64 0)).set 1 (.slice none 0 0)
      have b8 := (B2.setCell (p := ⟨w.heap.size + 1, 0, none⟩) (Nat.le_succ _) (.int .i64 0)).setCell (p := ⟨w.heap.size + 1, 1, none⟩) (Nat.le_succ _) (.slice none 0 0)
      generalize (w2.setCell ⟨w.heap.size + 1, 0, none⟩ (.int .i64 0)).setCell ⟨w.heap.size + 1, 1, none⟩ (.slice none 0 0) = w8 at K2 b8 ⊢
      have r0 := K2.cell 0
      have r1 := K2.cell 1
      simp only [List.set_cons_zero, List.set_cons_succ, List.getElem?_cons_zero, List.getElem?_cons_succ] at r0 r1
      exact bodyPost_ret (v := .tuple #[.agg #[.int .i64 0, .slice none 0 0], .int .i64 (-1)]) (by simp [results, Try.results25, go_sem, r0, r1]) rfl (gives_ci_nil b8)
    · have L1 := Lib.hid (fun W => LE.out b W)
      cases q1 : isE s b
      · have hE : addAndB s a b = (⟨0, []⟩, -1) := addB_no (by rw [k1]; simp [areE, q0, q1])
        rw [hE]
        rw [q0] at L0
        rw [q1] at L1
        obtain ⟨m, gs⟩ := s
        dsimp only at *
        clear hE k1 h1 ok gd hnn LE q0 q1
        go_enter Try.func25, Try.ntmps25
        go_wp2_with fail
        refine (CK.out _ B0).mono ?_
        rintro e w1 ⟨rfl, b1⟩
        obtain ⟨B1, kb1, kr1⟩ := BX.out _ b1
        have x0 := kb1.cell 0
        have x1 := kb1.cell 1
        have f0 := kr1.frozen 0
        have f1 := kr1.frozen 1
        have y0 := kr1.cell 0
        have y1 := kr1.cell 1
        simp only [List.getElem?_cons_zero, List.getElem?_cons_succ] at x0 x1 y0 y1
        go_wp2_with fail
        refine (L0.out _).mono ?_
        rintro e w2 ⟨rfl, c2⟩
        have b2 := b1.trans (c2.mono b1.size)
        obtain ⟨B2, kb2, kr2⟩ := BX.out _ b2
        have x0 := kb2.cell 0
        have x1 := kb2.cell 1
        have f0 := kr2.frozen 0
        have f1 := kr2.frozen 1
        have y0 := kr2.cell 0
        have y1 := kr2.cell 1
        simp only [List.getElem?_cons_zero, List.getElem?_cons_succ] at x0 x1 y0 y1
        go_wp2_with fail
        refine (L1.out _).mono ?_
        rintro e w3 ⟨rfl, c3⟩
        have b3 := b2.trans (c3.mono b2.size)
        obtain ⟨B3, kb3, kr3⟩ := BX.out _ b3
        have x0 := kb3.cell 0
        have x1 := kb3.cell 1
        have f0 := kr3.frozen 0
        have f1 := kr3.frozen 1
        have y0 := kr3.cell 0
        have y1 := kr3.cell 1
        simp only [List.getElem?_cons_zero, List.getElem?_cons_succ] at x0 x1 y0 y1
        go_wp2
        have K2 := (kr3.set 0 (.int .i64 0)).set 1 (.slice none 0 0)
        have b8 := (B3.setCell (p := ⟨w.heap.size + 1, 0, none⟩) (Nat.le_succ _) (.int .i64 0)).setCell (p := ⟨w.heap.size + 1, 1, none⟩) (Nat.le_succ _) (.slice none 0 0)
        generalize (w3.setCell ⟨w.heap.size + 1, 0, none⟩ (.int .i64 0)).setCell ⟨w.heap.size + 1, 1, none⟩ (.slice none 0 0) = w8 at K2 b8 ⊢
        have r0 := K2.cell 0
        have r1 := K2.cell 1
        simp only [List.set_cons_zero, List.set_cons_succ, List.getElem?_cons_zero, List.getElem?_cons_succ] at r0 r1
        exact bodyPost_ret (v := .tuple #[.agg #[.int .i64 0, .slice none 0 0], .int .i64 (-1)]) (by simp [results, Try.results25, go_sem, r0, r1]) rfl (gives_ci_nil b8)
      · have hE : addAndB s a b = toldB (andB s a b) := addB_yes (by rw [k1]; simp [areE, q0, q1])
        obtain ⟨a0, a1⟩ := isE_iff.1 q0
        obtain ⟨b0, b1⟩ := isE_iff.1 q1
        rw [hE]
        have CP := Lib.hid (fun W (B : Below w.heap.size w W) => l7Copy_any s A s.gates.length c W (Mem.rd_on h1 B) (by have := ok.few; omega))
        have CO := Lib.hid (fun A2 c2 base W ho hb => l7And_w s A2 c2 a b base W ho hb a0 (by omega) b0 (by omega) gd)
        rw [q0] at L0
        rw [q1] at L1
        have hlo : -1 ≤ (andB s a b).2 := andB_lo gd a0 (by omega) b0 (by omega)
        have hfew : (andB s a b).1.gates.length ≤ 600 := andB_few gd a0 (by omega) b0 (by omega)
        generalize andB s a b = R at *
        obtain ⟨⟨rm, rg⟩, re⟩ := R
        obtain ⟨m, gs⟩ := s
        dsimp only at *
        have CO := Lib.hid (show ∀ A2 c2 base W, W.ownsRow base 52 2 (.slice A2 gs.length c2) gs.length (fl gs) → base ≤ W.heap.size → Calls Try.prog 52 #[.agg #[.int .i64 m, .slice A2 gs.length c2], .int .i64 a, .int .i64 b] W (fun e w' => ∃ m7 A n c, e = .returned (.tuple #[.agg #[.int .i64 m7, .slice A n c], .int .i64 re]) ∧ (0 ≤ re → m7 = rm ∧ n = rg.length ∧ w'.ownsRow base 52 2 (.slice A n c) n (fl rg)) ∧ Only (bl (.slice A2 gs.length c2)) W w' ∧ ∀ x ∈ bl (.slice A n c), x ∈ bl (.slice A2 gs.length c2) ∨ W.heap.size ≤ x) from fun A2 c2 base W ho hb => CO.out A2 c2 base W ho hb)
        clear hE k1 h1 ok gd hnn LE q0 a0 a1 q1 b0 b1
        by_cases hre : re < 0
        · have hT : toldB (⟨rm, rg⟩, re) = (⟨0, []⟩, -1) := if_pos hre
          rw [hT]
          clear hT hlo
          dsimp only
          go_enter Try.func25, Try.ntmps25
          go_wp2_with fail
          refine (CK.out _ B0).mono ?_
          rintro e w1 ⟨rfl, b1⟩
          obtain ⟨B1, kb1, kr1⟩ := BX.out _ b1
          have x0 := kb1.cell 0
          have x1 := kb1.cell 1
          have f0 := kr1.frozen 0
          have f1 := kr1.frozen 1
          have y0 := kr1.cell 0
          have y1 := kr1.cell 1
          simp only [List.getElem?_cons_zero, List.getElem?_cons_succ] at x0 x1 y0 y1
          go_wp2_with fail
          refine (L0.out _).mono ?_
          rintro e w2 ⟨rfl, c2⟩
          have b2 := b1.trans (c2.mono b1.size)
          obtain ⟨B2, kb2, kr2⟩ := BX.out _ b2
          have x0 := kb2.cell 0
          have x1 := kb2.cell 1
          have f0 := kr2.frozen 0
          have f1 := kr2.frozen 1
          have y0 := kr2.cell 0
          have y1 := kr2.cell 1
          simp only [List.getElem?_cons_zero, List.getElem?_cons_succ] at x0 x1 y0 y1
          go_wp2_with fail
          refine (L1.out _).mono ?_
          rintro e w3 ⟨rfl, c3⟩
          have b3 := b2.trans (c3.mono b2.size)
          obtain ⟨B3, kb3, kr3⟩ := BX.out _ b3
          have x0 := kb3.cell 0
          have x1 := kb3.cell 1
          have f0 := kr3.frozen 0
          have f1 := kr3.frozen 1
          have y0 := kr3.cell 0
          have y1 := kr3.cell 1
          simp only [List.getElem?_cons_zero, List.getElem?_cons_succ] at x0 x1 y0 y1
          go_wp2_with fail
          refine (CP.out _ B3).mono ?_
          rintro e w6 ⟨A6, c6, rfl, ho6, cc6⟩
          have b6 := b3.trans (cc6.mono b3.size)
          go_wp2_with fail
          refine (CO.out A6 c6 w3.heap.size w6 ho6 cc6.size).mono ?_
          rintro e w7 ⟨m7, A7, n7, c7, rfl, how7, on7, lo7⟩
          have d7 : Below w3.heap.size w6 w7 := on7.below cc6.size fun x hx => (ho6.lt x (mem_bl.1 hx)).1
          have b7 := b6.trans (d7.mono b3.size)
          obtain ⟨B7, kb7, kr7⟩ := BX.out _ b7
          have x0 := kb7.cell 0
          have x1 := kb7.cell 1
          have f0 := kr7.frozen 0
          have f1 := kr7.frozen 1
          have y0 := kr7.cell 0
          have y1 := kr7.cell 1
          simp only [List.getElem?_cons_zero, List.getElem?_cons_succ] at x0 x1 y0 y1
          go_wp2_with fail
          refine (l7Told_no m7 A7 n7 c7 re _ hre).mono ?_
          rintro e w9 ⟨rfl, d9⟩
          have b9 := b7.trans ((below_call d9).mono b7.size)
          obtain ⟨B9, kb9, kr9⟩ := BX.out _ b9
          have x0 := kb9.cell 0
          have x1 := kb9.cell 1
          have f0 := kr9.frozen 0
          have f1 := kr9.frozen 1
          have y0 := kr9.cell 0
          have y1 := kr9.cell 1
          simp only [List.getElem?_cons_zero, List.getElem?_cons_succ] at x0 x1 y0 y1
          go_wp2
          have K2 := (kr9.set 0 (.int .i64 0)).set 1 (.slice none 0 0)
          have b8 := (B9.setCell (p := ⟨w.heap.size + 1, 0, none⟩) (Nat.le_succ _) (.int .i64 0)).setCell (p := ⟨w.heap.size + 1, 1, none⟩) (Nat.le_succ _) (.slice none 0 0)
          generalize (w9.setCell ⟨w.heap.size + 1, 0, none⟩ (.int .i64 0)).setCell ⟨w.heap.size + 1, 1, none⟩ (.slice none 0 0) = w8 at K2 b8 ⊢
          have r0 := K2.cell 0
          have r1 := K2.cell 1
          simp only [List.set_cons_zero, List.set_cons_succ, List.getElem?_cons_zero, List.getElem?_cons_succ] at r0 r1
          exact bodyPost_ret (v := .tuple #[.agg #[.int .i64 0, .slice none 0 0], .int .i64 (-1)]) (by simp [results, Try.results25, go_sem, r0, r1]) rfl (gives_ci_nil b8)
        · have hT : toldB (⟨rm, rg⟩, re) = (⟨rm, rg⟩, re) := if_neg hre
          rw [hT]
          have hre : 0 ≤ re := by omega
          clear hT hlo
          dsimp only
          go_enter Try.func25, Try.ntmps25
          go_wp2_with fail
          refine (CK.out _ B0).mono ?_
          rintro e w1 ⟨rfl, b1⟩
          obtain ⟨B1, kb1, kr1⟩ := BX.out _ b1
          have x0 := kb1.cell 0
          have x1 := kb1.cell 1
          have f0 := kr1.frozen 0
          have f1 := kr1.frozen 1
          have y0 := kr1.cell 0
          have y1 := kr1.cell 1
          simp only [List.getElem?_cons_zero, List.getElem?_cons_succ] at x0 x1 y0 y1
          go_wp2_with fail
          refine (L0.out _).mono ?_
          rintro e w2 ⟨rfl, c2⟩
          have b2 := b1.trans (c2.mono b1.size)
          obtain ⟨B2, kb2, kr2⟩ := BX.out _ b2
          have x0 := kb2.cell 0
          have x1 := kb2.cell 1
          have f0 := kr2.frozen 0
          have f1 := kr2.frozen 1
          have y0 := kr2.cell 0
          have y1 := kr2.cell 1
          simp only [List.getElem?_cons_zero, List.getElem?_cons_succ] at x0 x1 y0 y1
          go_wp2_with fail
          refine (L1.out _).mono ?_
          rintro e w3 ⟨rfl, c3⟩
          have b3 := b2.trans (c3.mono b2.size)
          obtain ⟨B3, kb3, kr3⟩ := BX.out _ b3
          have x0 := kb3.cell 0
          have x1 := kb3.cell 1
          have f0 := kr3.frozen 0
          have f1 := kr3.frozen 1
          have y0 := kr3.cell 0
          have y1 := kr3.cell 1
          simp only [List.getElem?_cons_zero, List.getElem?_cons_succ] at x0 x1 y0 y1
          go_wp2_with fail
          refine (CP.out _ B3).mono ?_
          rintro e w6 ⟨A6, c6, rfl, ho6, cc6⟩
          have b6 := b3.trans (cc6.mono b3.size)
          go_wp2_with fail
          refine (CO.out A6 c6 w3.heap.size w6 ho6 cc6.size).mono ?_
          rintro e w7 ⟨m7, A7, n7, c7, rfl, how7, on7, lo7⟩
          have d7 : Below w3.heap.size w6 w7 := on7.below cc6.size fun x hx => (ho6.lt x (mem_bl.1 hx)).1
          have b7 := b6.trans (d7.mono b3.size)
          obtain ⟨B7, kb7, kr7⟩ := BX.out _ b7
          have x0 := kb7.cell 0
          have x1 := kb7.cell 1
          have f0 := kr7.frozen 0
          have f1 := kr7.frozen 1
          have y0 := kr7.cell 0
          have y1 := kr7.cell 1
          simp only [List.getElem?_cons_zero, List.getElem?_cons_succ] at x0 x1 y0 y1
          obtain ⟨e7, e7b, ho7⟩ := how7 hre
          obtain rfl := e7
          obtain rfl := e7b
          clear how7
          go_wp2_with fail
          refine (l7Told_yes m7 A7 rg.length c7 re _ (by omega)).mono ?_
          rintro e w9 ⟨rfl, d9⟩
          have d9 := below_call d9
          have b9 := b7.trans (d9.mono b7.size)
          obtain ⟨B9, kb9, kr9⟩ := BX.out _ b9
          have x0 := kb9.cell 0
          have x1 := kb9.cell 1
          have f0 := kr9.frozen 0
          have f1 := kr9.frozen 1
          have y0 := kr9.cell 0
          have y1 := kr9.cell 1
          simp only [List.getElem?_cons_zero, List.getElem?_cons_succ] at x0 x1 y0 y1
          have hz9 : w.heap.size + 1 < w3.heap.size := kr3.lt
          have o9 := own_below ho7 d9
          have n9 : (Value.slice A7 rg.length c7).ownBlock ≠ some (w.heap.size + 1) := fun e => by have := (ho7.lt _ e).1; omega
          go_wp2
          have K2 := (kr9.set 0 (.int .i64 m7)).set 1 (.slice A7 rg.length c7)
          have o8 := own_away (own_away o9 (p := ⟨w.heap.size + 1, 0, none⟩) (.int .i64 m7) n9) (p := ⟨w.heap.size + 1, 1, none⟩) (.slice A7 rg.length c7) n9
          have b8 := (B9.setCell (p := ⟨w.heap.size + 1, 0, none⟩) (Nat.le_succ _) (.int .i64 m7)).setCell (p := ⟨w.heap.size + 1, 1, none⟩) (Nat.le_succ _) (.slice A7 rg.length c7)
          generalize (w9.setCell ⟨w.heap.size + 1, 0, none⟩ (.int .i64 m7)).setCell ⟨w.heap.size + 1, 1, none⟩ (.slice A7 rg.length c7) = w8 at K2 b8 o8 ⊢
          have r0 := K2.cell 0
          have r1 := K2.cell 1
          simp only [List.set_cons_zero, List.set_cons_succ, List.getElem?_cons_zero, List.getElem?_cons_succ] at r0 r1
          obtain ⟨fp, q1, q2, q3⟩ := own_flat (α := Ga) o8 rfl (by unfold maxLen; have := hfew; omega)
          exact bodyPost_ret (v := .tuple #[.agg #[.int .i64 m7, .slice A7 rg.length c7], .int .i64 re]) (by simp [results, Try.results25, go_sem, r0, r1]) rfl ⟨A7, _, c7, fp, rfl, q1, q2, fun x hx => by have := q3 x hx; have := kb3.lt; omega, b8⟩
noncomputable def addOrB (s : Ci) (a b : Int) : Ci × Int := addB (fun s => orB s a b) s [a, b]
set_option maxRecDepth 100000 in
set_option maxHeartbeats 2000000 in
theorem addOr_spec (s : Ci) (a b : Int) (A : Option Addr) (n c : Nat) (w : World) (h1 : Mem.rd w w.heap.size [.slice A n c] s.gates) :
    Calls Try.prog 28 #[.agg #[.int .i64 s.ins, .slice A n c], .int .i64 a, .int .i64 b] w (GivesCiN w (addOrB s a b).1 (addOrB s a b).2) := by
  obtain rfl : s.gates.length = n := rd_len h1
  have CK := Lib.hid (fun W (B : Below w.heap.size w W) => ckValid_spec s A s.gates.length c W (Mem.rd_on h1 B))
  have BX := Lib.hid (two_boxes w #[.int .i64 s.ins, .slice A s.gates.length c] #[.int .i64 0, .slice none 0 0] 29 29)
  have B0 : Below w.heap.size w ((w.alloc (.cells #[.int .i64 s.ins, .slice A s.gates.length c] 29)).alloc (.cells #[.int .i64 0, .slice none 0 0] 29)) := (below_alloc w _).alloc (by simp) _
  cases k1 : ckB s
  · have hE : addOrB s a b = (⟨0, []⟩, -1) := addB_no (by rw [k1]; rfl)
    rw [hE]
    rw [k1] at CK
    obtain ⟨m, gs⟩ := s
    dsimp only at *
    clear hE k1 h1
    go_enter Try.func28, Try.ntmps28
    go_wp2_with fail
    refine (CK.out _ B0).mono ?_
    rintro e w1 ⟨rfl, b1⟩
    obtain ⟨B1, kb1, kr1⟩ := BX.out _ b1
    have x0 := kb1.cell 0
    have x1 := kb1.cell 1
    have f0 := kr1.frozen 0
    have f1 := kr1.frozen 1
    have y0 := kr1.cell 0
    have y1 := kr1.cell 1
    simp only [List.getElem?_cons_zero, List.getElem?_cons_succ] at x0 x1 y0 y1
    go_wp2
    have K2 := (kr1.set 0 (.int .i64 0)).set 1 (.slice none 0 0)
    have b8 := (B1.setCell (p := ⟨w.heap.size + 1, 0, none⟩) (Nat.le_succ _) (.int .i64 0)).setCell (p := ⟨w.heap.size + 1, 1, none⟩) (Nat.le_succ _) (.slice none 0 0)
    generalize (w1.setCell ⟨w.heap.size + 1, 0, none⟩ (.int .i64 0)).setCell ⟨w.heap.size + 1, 1, none⟩ (.slice none 0 0) = w8 at K2 b8 ⊢
    have r0 := K2.cell 0
    have r1 := K2.cell 1
    simp only [List.set_cons_zero, List.set_cons_succ, List.getElem?_cons_zero, List.getElem?_cons_succ] at r0 r1
    exact bodyPost_ret (v := .tuple #[.agg #[.int .i64 0, .slice none 0 0], .int .i64 (-1)]) (by simp [results, Try.results28, go_sem, r0, r1]) rfl (gives_ci_nil b8)
  · have ok := ckB_iff.1 k1
    have LE := Lib.hid (fun x W => l7Edge_any s A c x W ok.lo ok.hi ok.few)
    have gd := Gd.of_ok ok
    have hnn := Ci.nodes_le ok.lo ok.hi ok.few
    rw [k1] at CK
    have L0 := Lib.hid (fun W => LE.out a W)
    cases q0 : isE s a
    · have hE : addOrB s a b = (⟨0, []⟩, -1) := addB_no (by rw [k1]; simp [areE, q0])
      rw [hE]
      rw [q0] at L0
      obtain ⟨m, gs⟩ := s
      dsimp only at *
      clear hE k1 h1 ok gd hnn LE q0
      go_enter Try.func28, Try.ntmps28
      go_wp2_with fail
      refine (CK.out _ B0).mono ?_
      rintro e w1 ⟨rfl, b1⟩
      obtain ⟨B1, kb1, kr1⟩ := BX.out _ b1
      have x0 := kb1.cell 0
      have x1 := kb1.cell 1
      have f0 := kr1.frozen 0
      have f1 := kr1.frozen 1
      have y0 := kr1.cell 0
      have y1 := kr1.cell 1
      simp only [List.getElem?_cons_zero, List.getElem?_cons_succ] at x0 x1 y0 y1
      go_wp2_with fail
      refine (L0.out _).mono ?_
      rintro e w2 ⟨rfl, c2⟩
      have b2 := b1.trans (c2.mono b1.size)
      obtain ⟨B2, kb2, kr2⟩ := BX.out _ b2
      have x0 := kb2.cell 0
      have x1 := kb2.cell 1
      have f0 := kr2.frozen 0
      have f1 := kr2.frozen 1
      have y0 := kr2.cell 0
      have y1 := kr2.cell 1
      simp only [List.getElem?_cons_zero, List.getElem?_cons_succ] at x0 x1 y0 y1
      go_wp2
      have K2 := (kr2.set 0 (.int .i64 0)).set 1 (.slice none 0 0)
      have b8 := (B2.setCell (p := ⟨w.heap.size + 1, 0, none⟩) (Nat.le_succ _) (.int .i64 0)).setCell (p := ⟨w.heap.size + 1, 1, none⟩) (Nat.le_succ _) (.slice none 0 0)
      generalize (w2.setCell ⟨w.heap.size + 1, 0, none⟩ (.int .i64 0)).setCell ⟨w.heap.size + 1, 1, none⟩ (.slice none 0 0) = w8 at K2 b8 ⊢
      have r0 := K2.cell 0
      have r1 := K2.cell 1
      simp only [List.set_cons_zero, List.set_cons_succ, List.getElem?_cons_zero, List.getElem?_cons_succ] at r0 r1
      exact bodyPost_ret (v := .tuple #[.agg #[.int .i64 0, .slice none 0 0], .int .i64 (-1)]) (by simp [results, Try.results28, go_sem, r0, r1]) rfl (gives_ci_nil b8)
    · have L1 := Lib.hid (fun W => LE.out b W)
      cases q1 : isE s b
      · have hE : addOrB s a b = (⟨0, []⟩, -1) := addB_no (by rw [k1]; simp [areE, q0, q1])
        rw [hE]
        rw [q0] at L0
        rw [q1] at L1
        obtain ⟨m, gs⟩ := s
        dsimp only at *
        clear hE k1 h1 ok gd hnn LE q0 q1
        go_enter Try.func28, Try.ntmps28
        go_wp2_with fail
        refine (CK.out _ B0).mono ?_
        rintro e w1 ⟨rfl, b1⟩
        obtain ⟨B1, kb1, kr1⟩ := BX.out _ b1
        have x0 := kb1.cell 0
        have x1 := kb1.cell 1
        have f0 := kr1.frozen 0
        have f1 := kr1.frozen 1
        have y0 := kr1.cell 0
        have y1 := kr1.cell 1
        simp only [List.getElem?_cons_zero, List.getElem?_cons_succ] at x0 x1 y0 y1
        go_wp2_with fail
        refine (L0.out _).mono ?_
        rintro e w2 ⟨rfl, c2⟩
        have b2 := b1.trans (c2.mono b1.size)
        obtain ⟨B2, kb2, kr2⟩ := BX.out _ b2
        have x0 := kb2.cell 0
        have x1 := kb2.cell 1
        have f0 := kr2.frozen 0
        have f1 := kr2.frozen 1
        have y0 := kr2.cell 0
        have y1 := kr2.cell 1
        simp only [List.getElem?_cons_zero, List.getElem?_cons_succ] at x0 x1 y0 y1
        go_wp2_with fail
        refine (L1.out _).mono ?_
        rintro e w3 ⟨rfl, c3⟩
        have b3 := b2.trans (c3.mono b2.size)
        obtain ⟨B3, kb3, kr3⟩ := BX.out _ b3
        have x0 := kb3.cell 0
        have x1 := kb3.cell 1
        have f0 := kr3.frozen 0
        have f1 := kr3.frozen 1
        have y0 := kr3.cell 0
        have y1 := kr3.cell 1
        simp only [List.getElem?_cons_zero, List.getElem?_cons_succ] at x0 x1 y0 y1
        go_wp2
        have K2 := (kr3.set 0 (.int .i64 0)).set 1 (.slice none 0 0)
        have b8 := (B3.setCell (p := ⟨w.heap.size + 1, 0, none⟩) (Nat.le_succ _) (.int .i64 0)).setCell (p := ⟨w.heap.size + 1, 1, none⟩) (Nat.le_succ _) (.slice none 0 0)
        generalize (w3.setCell ⟨w.heap.size + 1, 0, none⟩ (.int .i64 0)).setCell ⟨w.heap.size + 1, 1, none⟩ (.slice none 0 0) = w8 at K2 b8 ⊢
        have r0 := K2.cell 0
        have r1 := K2.cell 1
        simp only [List.set_cons_zero, List.set_cons_succ, List.getElem?_cons_zero, List.getElem?_cons_succ] at r0 r1
        exact bodyPost_ret (v := .tuple #[.agg #[.int .i64 0, .slice none 0 0], .int .i64 (-1)]) (by simp [results, Try.results28, go_sem, r0, r1]) rfl (gives_ci_nil b8)
      · have hE : addOrB s a b = toldB (orB s a b) := addB_yes (by rw [k1]; simp [areE, q0, q1])
        obtain ⟨a0, a1⟩ := isE_iff.1 q0
        obtain ⟨b0, b1⟩ := isE_iff.1 q1
        rw [hE]
        have CP := Lib.hid (fun W (B : Below w.heap.size w W) => l7Copy_any s A s.gates.length c W (Mem.rd_on h1 B) (by have := ok.few; omega))
        have CO := Lib.hid (fun A2 c2 base W ho hb => l7Or_w s A2 c2 a b base W ho hb a0 (by omega) b0 (by omega) gd)
        rw [q0] at L0
        rw [q1] at L1
        have hlo : -1 ≤ (orB s a b).2 := orB_lo gd a0 (by omega) b0 (by omega)
        have hfew : (orB s a b).1.gates.length ≤ 600 := orB_few gd a0 (by omega) b0 (by omega)
        generalize orB s a b = R at *
        obtain ⟨⟨rm, rg⟩, re⟩ := R
        obtain ⟨m, gs⟩ := s
        dsimp only at *
        have CO := Lib.hid (show ∀ A2 c2 base W, W.ownsRow base 52 2 (.slice A2 gs.length c2) gs.length (fl gs) → base ≤ W.heap.size → Calls Try.prog 59 #[.agg #[.int .i64 m, .slice A2 gs.length c2], .int .i64 a, .int .i64 b] W (fun e w' => ∃ m7 A n c, e = .returned (.tuple #[.agg #[.int .i64 m7, .slice A n c], .int .i64 re]) ∧ (0 ≤ re → m7 = rm ∧ n = rg.length ∧ w'.ownsRow base 52 2 (.slice A n c) n (fl rg)) ∧ Only (bl (.slice A2 gs.length c2)) W w' ∧ ∀ x ∈ bl (.slice A n c), x ∈ bl (.slice A2 gs.length c2) ∨ W.heap.size ≤ x) from fun A2 c2 base W ho hb => CO.out A2 c2 base W ho hb)
        clear hE k1 h1 ok gd hnn LE q0 a0 a1 q1 b0 b1
        by_cases hre : re < 0
        · have hT : toldB (⟨rm, rg⟩, re) = (⟨0, []⟩, -1) := if_pos hre
          rw [hT]
          clear hT hlo
          dsimp only
          go_enter Try.func28, Try.ntmps28
          go_wp2_with fail
          refine (CK.out _ B0).mono ?_
          rintro e w1 ⟨rfl, b1⟩
          obtain ⟨B1, kb1, kr1⟩ := BX.out _ b1
          have x0 := kb1.cell 0
          have x1 := kb1.cell 1
          have f0 := kr1.frozen 0
          have f1 := kr1.frozen 1
          have y0 := kr1.cell 0
          have y1 := kr1.cell 1
          simp only [List.getElem?_cons_zero, List.getElem?_cons_succ] at x0 x1 y0 y1
          go_wp2_with fail
          refine (L0.out _).mono ?_
          rintro e w2 ⟨rfl, c2⟩
          have b2 := b1.trans (c2.mono b1.size)
          obtain ⟨B2, kb2, kr2⟩ := BX.out _ b2
          have x0 := kb2.cell 0
          have x1 := kb2.cell 1
          have f0 := kr2.frozen 0
          have f1 := kr2.frozen 1
          have y0 := kr2.cell 0
          have y1 := kr2.cell 1
          simp only [List.getElem?_cons_zero, List.getElem?_cons_succ] at x0 x1 y0 y1
          go_wp2_with fail
          refine (L1.out _).mono ?_
          rintro e w3 ⟨rfl, c3⟩
          have b3 := b2.trans (c3.mono b2.size)
          obtain ⟨B3, kb3, kr3⟩ := BX.out _ b3
          have x0 := kb3.cell 0
          have x1 := kb3.cell 1
          have f0 := kr3.frozen 0
          have f1 := kr3.frozen 1
          have y0 := kr3.cell 0
          have y1 := kr3.cell 1
          simp only [List.getElem?_cons_zero, List.getElem?_cons_succ] at x0 x1 y0 y1
          go_wp2_with fail
          refine (CP.out _ B3).mono ?_
          rintro e w6 ⟨A6, c6, rfl, ho6, cc6⟩
          have b6 := b3.trans (cc6.mono b3.size)
          go_wp2_with fail
          refine (CO.out A6 c6 w3.heap.size w6 ho6 cc6.size).mono ?_
          rintro e w7 ⟨m7, A7, n7, c7, rfl, how7, on7, lo7⟩
          have d7 : Below w3.heap.size w6 w7 := on7.below cc6.size fun x hx => (ho6.lt x (mem_bl.1 hx)).1
          have b7 := b6.trans (d7.mono b3.size)
          obtain ⟨B7, kb7, kr7⟩ := BX.out _ b7
          have x0 := kb7.cell 0
          have x1 := kb7.cell 1
          have f0 := kr7.frozen 0
          have f1 := kr7.frozen 1
          have y0 := kr7.cell 0
          have y1 := kr7.cell 1
          simp only [List.getElem?_cons_zero, List.getElem?_cons_succ] at x0 x1 y0 y1
          go_wp2_with fail
          refine (l7Told_no m7 A7 n7 c7 re _ hre).mono ?_
          rintro e w9 ⟨rfl, d9⟩
          have b9 := b7.trans ((below_call d9).mono b7.size)
          obtain ⟨B9, kb9, kr9⟩ := BX.out _ b9
          have x0 := kb9.cell 0
          have x1 := kb9.cell 1
          have f0 := kr9.frozen 0
          have f1 := kr9.frozen 1
          have y0 := kr9.cell 0
          have y1 := kr9.cell 1
          simp only [List.getElem?_cons_zero, List.getElem?_cons_succ] at x0 x1 y0 y1
          go_wp2
          have K2 := (kr9.set 0 (.int .i64 0)).set 1 (.slice none 0 0)
          have b8 := (B9.setCell (p := ⟨w.heap.size + 1, 0, none⟩) (Nat.le_succ _) (.int .i64 0)).setCell (p := ⟨w.heap.size + 1, 1, none⟩) (Nat.le_succ _) (.slice none 0 0)
          generalize (w9.setCell ⟨w.heap.size + 1, 0, none⟩ (.int .i64 0)).setCell ⟨w.heap.size + 1, 1, none⟩ (.slice none 0 0) = w8 at K2 b8 ⊢
          have r0 := K2.cell 0
          have r1 := K2.cell 1
          simp only [List.set_cons_zero, List.set_cons_succ, List.getElem?_cons_zero, List.getElem?_cons_succ] at r0 r1
          exact bodyPost_ret (v := .tuple #[.agg #[.int .i64 0, .slice none 0 0], .int .i64 (-1)]) (by simp [results, Try.results28, go_sem, r0, r1]) rfl (gives_ci_nil b8)
        · have hT : toldB (⟨rm, rg⟩, re) = (⟨rm, rg⟩, re) := if_neg hre
          rw [hT]
          have hre : 0 ≤ re := by omega
          clear hT hlo
          dsimp only
          go_enter Try.func28, Try.ntmps28
          go_wp2_with fail
          refine (CK.out _ B0).mono ?_
          rintro e w1 ⟨rfl, b1⟩
          obtain ⟨B1, kb1, kr1⟩ := BX.out _ b1
          have x0 := kb1.cell 0
          have x1 := kb1.cell 1
          have f0 := kr1.frozen 0
          have f1 := kr1.frozen 1
          have y0 := kr1.cell 0
          have y1 := kr1.cell 1
          simp only [List.getElem?_cons_zero, List.getElem?_cons_succ] at x0 x1 y0 y1
          go_wp2_with fail
          refine (L0.out _).mono ?_
          rintro e w2 ⟨rfl, c2⟩
          have b2 := b1.trans (c2.mono b1.size)
          obtain ⟨B2, kb2, kr2⟩ := BX.out _ b2
          have x0 := kb2.cell 0
          have x1 := kb2.cell 1
          have f0 := kr2.frozen 0
          have f1 := kr2.frozen 1
          have y0 := kr2.cell 0
          have y1 := kr2.cell 1
          simp only [List.getElem?_cons_zero, List.getElem?_cons_succ] at x0 x1 y0 y1
          go_wp2_with fail
          refine (L1.out _).mono ?_
          rintro e w3 ⟨rfl, c3⟩
          have b3 := b2.trans (c3.mono b2.size)
          obtain ⟨B3, kb3, kr3⟩ := BX.out _ b3
          have x0 := kb3.cell 0
          have x1 := kb3.cell 1
          have f0 := kr3.frozen 0
          have f1 := kr3.frozen 1
          have y0 := kr3.cell 0
          have y1 := kr3.cell 1
          simp only [List.getElem?_cons_zero, List.getElem?_cons_succ] at x0 x1 y0 y1
          go_wp2_with fail
          refine (CP.out _ B3).mono ?_
          rintro e w6 ⟨A6, c6, rfl, ho6, cc6⟩
          have b6 := b3.trans (cc6.mono b3.size)
          go_wp2_with fail
          refine (CO.out A6 c6 w3.heap.size w6 ho6 cc6.size).mono ?_
          rintro e w7 ⟨m7, A7, n7, c7, rfl, how7, on7, lo7⟩
          have d7 : Below w3.heap.size w6 w7 := on7.below cc6.size fun x hx => (ho6.lt x (mem_bl.1 hx)).1
          have b7 := b6.trans (d7.mono b3.size)
          obtain ⟨B7, kb7, kr7⟩ := BX.out _ b7
          have x0 := kb7.cell 0
          have x1 := kb7.cell 1
          have f0 := kr7.frozen 0
          have f1 := kr7.frozen 1
          have y0 := kr7.cell 0
          have y1 := kr7.cell 1
          simp only [List.getElem?_cons_zero, List.getElem?_cons_succ] at x0 x1 y0 y1
          obtain ⟨e7, e7b, ho7⟩ := how7 hre
          obtain rfl := e7
          obtain rfl := e7b
          clear how7
          go_wp2_with fail
          refine (l7Told_yes m7 A7 rg.length c7 re _ (by omega)).mono ?_
          rintro e w9 ⟨rfl, d9⟩
          have d9 := below_call d9
          have b9 := b7.trans (d9.mono b7.size)
          obtain ⟨B9, kb9, kr9⟩ := BX.out _ b9
          have x0 := kb9.cell 0
          have x1 := kb9.cell 1
          have f0 := kr9.frozen 0
          have f1 := kr9.frozen 1
          have y0 := kr9.cell 0
          have y1 := kr9.cell 1
          simp only [List.getElem?_cons_zero, List.getElem?_cons_succ] at x0 x1 y0 y1
          have hz9 : w.heap.size + 1 < w3.heap.size := kr3.lt
          have o9 := own_below ho7 d9
          have n9 : (Value.slice A7 rg.length c7).ownBlock ≠ some (w.heap.size + 1) := fun e => by have := (ho7.lt _ e).1; omega
          go_wp2
          have K2 := (kr9.set 0 (.int .i64 m7)).set 1 (.slice A7 rg.length c7)
          have o8 := own_away (own_away o9 (p := ⟨w.heap.size + 1, 0, none⟩) (.int .i64 m7) n9) (p := ⟨w.heap.size + 1, 1, none⟩) (.slice A7 rg.length c7) n9
          have b8 := (B9.setCell (p := ⟨w.heap.size + 1, 0, none⟩) (Nat.le_succ _) (.int .i64 m7)).setCell (p := ⟨w.heap.size + 1, 1, none⟩) (Nat.le_succ _) (.slice A7 rg.length c7)
          generalize (w9.setCell ⟨w.heap.size + 1, 0, none⟩ (.int .i64 m7)).setCell ⟨w.heap.size + 1, 1, none⟩ (.slice A7 rg.length c7) = w8 at K2 b8 o8 ⊢
          have r0 := K2.cell 0
          have r1 := K2.cell 1
          simp only [List.set_cons_zero, List.set_cons_succ, List.getElem?_cons_zero, List.getElem?_cons_succ] at r0 r1
          obtain ⟨fp, q1, q2, q3⟩ := own_flat (α := Ga) o8 rfl (by unfold maxLen; have := hfew; omega)
          exact bodyPost_ret (v := .tuple #[.agg #[.int .i64 m7, .slice A7 rg.length c7], .int .i64 re]) (by simp [results, Try.results28, go_sem, r0, r1]) rfl ⟨A7, _, c7, fp, rfl, q1, q2, fun x hx => by have := q3 x hx; have := kb3.lt; omega, b8⟩
end Go.Proofs.Ytmimefcljdllcaa
