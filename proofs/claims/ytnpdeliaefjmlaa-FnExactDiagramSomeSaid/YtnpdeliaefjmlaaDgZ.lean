/- Diagrams: DiagramFix, in the model and in the program. -/
import Derived.Test.YtnpdeliaefjmlaaDgA
import Derived.Test.YtnpdeliaefjmlaaDgX
import Derived.Test.YtnpdeliaefjmlaaDgY
import Derived.Test.YtnpdeliaefjmlaaDgV
namespace Go.Proofs.Ytnpdeliaefjmlaa
open Go.RowKit
set_option maxRecDepth 100000

/-- A variable of a diagram. -/
def varIn (d : Dg) (v : Int) : Bool := decide (0 ≤ v ∧ v < d.vars)
/-- A value of a variable. -/
def bitB (x : Int) : Bool := decide (0 ≤ x ∧ x ≤ 1)
theorem bitB_yes {x : Int} (h : bitB x = true) : 0 ≤ x ∧ x ≤ 1 := of_decide_eq_true h
theorem bitB_no {x : Int} (h : bitB x = false) : (x != 0) = true ∧ (x != 1) = true := by
  have := of_decide_eq_false h
  constructor <;> simp <;> omega
theorem inB_dec (x lo hi : Int) : inB x lo hi = decide (lo ≤ x ∧ x ≤ hi) := by
  unfold inB
  by_cases h1 : lo ≤ x <;> by_cases h2 : x ≤ hi <;> simp [h1, h2]
theorem l1In_var (d : Dg) (v : Int) (w : World) : Calls Try.prog 54 #[.int .i64 v, .int .i64 0, .int .i64 (d.vars - 1)] w (GivesBool w (varIn d v)) := by
  refine (l1In_any v 0 (d.vars - 1) w).mono ?_
  rintro e w' ⟨rfl, rfl⟩
  refine ⟨?_, Below.refl _ _⟩
  rw [inB_dec]
  unfold varIn
  congr 2
  exact decide_eq_decide.2 ⟨fun h => by omega, fun h => by omega⟩
theorem l1In_bit (x : Int) (w : World) : Calls Try.prog 54 #[.int .i64 x, .int .i64 0, .int .i64 1] w (GivesBool w (bitB x)) := by
  refine (l1In_any x 0 1 w).mono ?_
  rintro e w' ⟨rfl, rfl⟩
  exact ⟨by rw [inB_dec]; rfl, Below.refl _ _⟩
theorem hasVarIn (d : Dg) (A : Option Addr) (n c : Nat) (v : Int) (w : World) : Calls Try.prog 71 #[.agg #[.int .i64 d.vars, .slice A n c], .int .i64 v] w (GivesBool w (varIn d v)) := hasVar_any d A n c v w
theorem fit_fix {d : Dg} {x a b : Int} (hx : bitB x = true) (ha : isP d a = true) (hb : varIn d b = true) : fitA d (3 + x) a b := by
  have h1 := bitB_yes hx
  have h2 : 0 ≤ b ∧ b < d.vars := of_decide_eq_true hb
  exact ⟨by omega, by omega, ha, fun h => by omega, fun h => by omega, fun _ => h2.1, fun _ => h2.2⟩

noncomputable def dgFixB (d : Dg) (nn vr xx : Int) : Dg × Int := if (dgB d && isP d nn && varIn d vr && bitB xx) = true then toldD (runF (3 + xx) 13 d nn vr) else (⟨0, []⟩, -1)
set_option maxRecDepth 100000 in
set_option maxHeartbeats 4000000 in
theorem dgFix_spec (d : Dg) (nn vr xx : Int)  (A : Option Addr) (n c : Nat) (w : World) (h1 : Mem.rd w w.heap.size [.slice A n c] d.forks) :
    Calls Try.prog 25 #[.agg #[.int .i64 d.vars, .slice A n c], .int .i64 nn, .int .i64 vr, .int .i64 xx] w (GivesDgN w (dgFixB d nn vr xx).1 (dgFixB d nn vr xx).2) := by
  obtain rfl : d.forks.length = n := rd_len h1
  have CK := Lib.hid (fun W (B : Below w.heap.size w W) => dgValid_spec d A d.forks.length c W (Mem.rd_on h1 B))
  have BX := Lib.hid (two_boxes w #[.int .i64 d.vars, .slice A d.forks.length c] #[.int .i64 0, .slice none 0 0] 46 46)
  have B0 : Below w.heap.size w ((w.alloc (.cells #[.int .i64 d.vars, .slice A d.forks.length c] 46)).alloc (.cells #[.int .i64 0, .slice none 0 0] 46)) := (below_alloc w _).alloc (by simp) _
  cases k1 : dgB d
  · have hE : dgFixB d nn vr xx = (⟨0, []⟩, -1) := if_neg (by rw [k1]; simp)
    rw [hE]
    rw [k1] at CK
    obtain ⟨v, fs⟩ := d
    dsimp only at *
    clear hE k1 h1
    go_enter Try.func25, Try.ntmps25
    go_wp2_with fail
    refine (CK.out _ B0).mono ?_
    rintro e w1 ⟨rfl, b1⟩
    obtain ⟨B1, kb1, kr1⟩ := BX.out _ b1
    have x0 := kb1.cell 0
    have x1 := kb1.cell 1
    have f0 := kr1.frozen 0
    have f1 := kr1.frozen 1
    have y0 := kr1.cell 0
    have y1 := kr1.cell 1
    simp only [List.getElem?_cons_zero, List.getElem?_cons_succ] at x0 x1 y0 y1
    go_wp2
    have K2 := (kr1.set 0 (.int .i64 0)).set 1 (.slice none 0 0)
    have b8 := (B1.setCell (p := ⟨w.heap.size + 1, 0, none⟩) (Nat.le_succ _) (.int .i64 0)).setCell (p := ⟨w.heap.size + 1, 1, none⟩) (Nat.le_succ _) (.slice none 0 0)
    generalize (w1.setCell ⟨w.heap.size + 1, 0, none⟩ (.int .i64 0)).setCell ⟨w.heap.size + 1, 1, none⟩ (.slice none 0 0) = w8 at K2 b8 ⊢
    have r0 := K2.cell 0
    have r1 := K2.cell 1
    simp only [List.set_cons_zero, List.set_cons_succ, List.getElem?_cons_zero, List.getElem?_cons_succ] at r0 r1
    exact bodyPost_ret (v := .tuple #[.agg #[.int .i64 0, .slice none 0 0], .int .i64 (-1)]) (by simp [results, Try.results25, go_sem, r0, r1]) rfl (gives_dg_nil b8)
  · have ok := dgB_iff.1 k1
    have few := ok.few
    have hv0 := ok.lo
    have hv1 := ok.hi
    rw [k1] at CK
    have L1 := Lib.hid (fun W (_ : Below w.heap.size w W) => l8Place_any d A c nn W (by omega))
    cases q1 : isP d nn
    · have hE : dgFixB d nn vr xx = (⟨0, []⟩, -1) := if_neg (by rw [k1, q1]; simp)
      rw [hE]
      rw [q1] at L1
      obtain ⟨v, fs⟩ := d
      dsimp only at *
      clear hE k1 h1 ok q1
      go_enter Try.func25, Try.ntmps25
      go_wp2_with fail
      refine (CK.out _ B0).mono ?_
      rintro e w1 ⟨rfl, b1⟩
      obtain ⟨B1, kb1, kr1⟩ := BX.out _ b1
      have x0 := kb1.cell 0
      have x1 := kb1.cell 1
      have f0 := kr1.frozen 0
      have f1 := kr1.frozen 1
      have y0 := kr1.cell 0
      have y1 := kr1.cell 1
      simp only [List.getElem?_cons_zero, List.getElem?_cons_succ] at x0 x1 y0 y1
      go_wp2_with fail
      refine (L1.out _ B1).mono ?_
      rintro e w2 ⟨rfl, c2⟩
      have b2 := b1.trans (c2.mono b1.size)
      obtain ⟨B2, kb2, kr2⟩ := BX.out _ b2
      have x0 := kb2.cell 0
      have x1 := kb2.cell 1
      have f0 := kr2.frozen 0
      have f1 := kr2.frozen 1
      have y0 := kr2.cell 0
      have y1 := kr2.cell 1
      simp only [List.getElem?_cons_zero, List.getElem?_cons_succ] at x0 x1 y0 y1
      go_wp2
      have K2 := (kr2.set 0 (.int .i64 0)).set 1 (.slice none 0 0)
      have b8 := (B2.setCell (p := ⟨w.heap.size + 1, 0, none⟩) (Nat.le_succ _) (.int .i64 0)).setCell (p := ⟨w.heap.size + 1, 1, none⟩) (Nat.le_succ _) (.slice none 0 0)
      generalize (w2.setCell ⟨w.heap.size + 1, 0, none⟩ (.int .i64 0)).setCell ⟨w.heap.size + 1, 1, none⟩ (.slice none 0 0) = w8 at K2 b8 ⊢
      have r0 := K2.cell 0
      have r1 := K2.cell 1
      simp only [List.set_cons_zero, List.set_cons_succ, List.getElem?_cons_zero, List.getElem?_cons_succ] at r0 r1
      exact bodyPost_ret (v := .tuple #[.agg #[.int .i64 0, .slice none 0 0], .int .i64 (-1)]) (by simp [results, Try.results25, go_sem, r0, r1]) rfl (gives_dg_nil b8)
    · have L2 := Lib.hid (fun W (_ : Below w.heap.size w W) => l1In_var d vr W)
      cases q2 : varIn d vr
      · have hE : dgFixB d nn vr xx = (⟨0, []⟩, -1) := if_neg (by rw [k1, q1, q2]; simp)
        rw [hE]
        rw [q1] at L1
        rw [q2] at L2
        obtain ⟨v, fs⟩ := d
        dsimp only at *
        clear hE k1 h1 ok q1 q2
        go_enter Try.func25, Try.ntmps25
        go_wp2_with fail
        refine (CK.out _ B0).mono ?_
        rintro e w1 ⟨rfl, b1⟩
        obtain ⟨B1, kb1, kr1⟩ := BX.out _ b1
        have x0 := kb1.cell 0
        have x1 := kb1.cell 1
        have f0 := kr1.frozen 0
        have f1 := kr1.frozen 1
        have y0 := kr1.cell 0
        have y1 := kr1.cell 1
        simp only [List.getElem?_cons_zero, List.getElem?_cons_succ] at x0 x1 y0 y1
        go_wp2_with fail
        refine (L1.out _ B1).mono ?_
        rintro e w2 ⟨rfl, c2⟩
        have b2 := b1.trans (c2.mono b1.size)
        obtain ⟨B2, kb2, kr2⟩ := BX.out _ b2
        have x0 := kb2.cell 0
        have x1 := kb2.cell 1
        have f0 := kr2.frozen 0
        have f1 := kr2.frozen 1
        have y0 := kr2.cell 0
        have y1 := kr2.cell 1
        simp only [List.getElem?_cons_zero, List.getElem?_cons_succ] at x0 x1 y0 y1
        go_wp2_with fail
        refine (L2.out _ B2).mono ?_
        rintro e w3 ⟨rfl, c3⟩
        have b3 := b2.trans (c3.mono b2.size)
        obtain ⟨B3, kb3, kr3⟩ := BX.out _ b3
        have x0 := kb3.cell 0
        have x1 := kb3.cell 1
        have f0 := kr3.frozen 0
        have f1 := kr3.frozen 1
        have y0 := kr3.cell 0
        have y1 := kr3.cell 1
        simp only [List.getElem?_cons_zero, List.getElem?_cons_succ] at x0 x1 y0 y1
        go_wp2
        have K2 := (kr3.set 0 (.int .i64 0)).set 1 (.slice none 0 0)
        have b8 := (B3.setCell (p := ⟨w.heap.size + 1, 0, none⟩) (Nat.le_succ _) (.int .i64 0)).setCell (p := ⟨w.heap.size + 1, 1, none⟩) (Nat.le_succ _) (.slice none 0 0)
        generalize (w3.setCell ⟨w.heap.size + 1, 0, none⟩ (.int .i64 0)).setCell ⟨w.heap.size + 1, 1, none⟩ (.slice none 0 0) = w8 at K2 b8 ⊢
        have r0 := K2.cell 0
        have r1 := K2.cell 1
        simp only [List.set_cons_zero, List.set_cons_succ, List.getElem?_cons_zero, List.getElem?_cons_succ] at r0 r1
        exact bodyPost_ret (v := .tuple #[.agg #[.int .i64 0, .slice none 0 0], .int .i64 (-1)]) (by simp [results, Try.results25, go_sem, r0, r1]) rfl (gives_dg_nil b8)
      · have L3 := Lib.hid (fun W (_ : Below w.heap.size w W) => l1In_bit xx W)
        cases q3 : bitB xx
        · have hE : dgFixB d nn vr xx = (⟨0, []⟩, -1) := if_neg (by rw [k1, q1, q2, q3]; simp)
          rw [hE]
          rw [q1] at L1
          rw [q2] at L2
          rw [q3] at L3
          obtain ⟨v, fs⟩ := d
          dsimp only at *
          clear hE k1 h1 ok q1 q2 q3
          go_enter Try.func25, Try.ntmps25
          go_wp2_with fail
          refine (CK.out _ B0).mono ?_
          rintro e w1 ⟨rfl, b1⟩
          obtain ⟨B1, kb1, kr1⟩ := BX.out _ b1
          have x0 := kb1.cell 0
          have x1 := kb1.cell 1
          have f0 := kr1.frozen 0
          have f1 := kr1.frozen 1
          have y0 := kr1.cell 0
          have y1 := kr1.cell 1
          simp only [List.getElem?_cons_zero, List.getElem?_cons_succ] at x0 x1 y0 y1
          go_wp2_with fail
          refine (L1.out _ B1).mono ?_
          rintro e w2 ⟨rfl, c2⟩
          have b2 := b1.trans (c2.mono b1.size)
          obtain ⟨B2, kb2, kr2⟩ := BX.out _ b2
          have x0 := kb2.cell 0
          have x1 := kb2.cell 1
          have f0 := kr2.frozen 0
          have f1 := kr2.frozen 1
          have y0 := kr2.cell 0
          have y1 := kr2.cell 1
          simp only [List.getElem?_cons_zero, List.getElem?_cons_succ] at x0 x1 y0 y1
          go_wp2_with fail
          refine (L2.out _ B2).mono ?_
          rintro e w3 ⟨rfl, c3⟩
          have b3 := b2.trans (c3.mono b2.size)
          obtain ⟨B3, kb3, kr3⟩ := BX.out _ b3
          have x0 := kb3.cell 0
          have x1 := kb3.cell 1
          have f0 := kr3.frozen 0
          have f1 := kr3.frozen 1
          have y0 := kr3.cell 0
          have y1 := kr3.cell 1
          simp only [List.getElem?_cons_zero, List.getElem?_cons_succ] at x0 x1 y0 y1
          go_wp2_with fail
          refine (L3.out _ B3).mono ?_
          rintro e w4 ⟨rfl, c4⟩
          have b4 := b3.trans (c4.mono b3.size)
          obtain ⟨B4, kb4, kr4⟩ := BX.out _ b4
          have x0 := kb4.cell 0
          have x1 := kb4.cell 1
          have f0 := kr4.frozen 0
          have f1 := kr4.frozen 1
          have y0 := kr4.cell 0
          have y1 := kr4.cell 1
          simp only [List.getElem?_cons_zero, List.getElem?_cons_succ] at x0 x1 y0 y1
          go_wp2
          have K2 := (kr4.set 0 (.int .i64 0)).set 1 (.slice none 0 0)
          have b8 := (B4.setCell (p := ⟨w.heap.size + 1, 0, none⟩) (Nat.le_succ _) (.int .i64 0)).setCell (p := ⟨w.heap.size + 1, 1, none⟩) (Nat.le_succ _) (.slice none 0 0)
          generalize (w4.setCell ⟨w.heap.size + 1, 0, none⟩ (.int .i64 0)).setCell ⟨w.heap.size + 1, 1, none⟩ (.slice none 0 0) = w8 at K2 b8 ⊢
          have r0 := K2.cell 0
          have r1 := K2.cell 1
          simp only [List.set_cons_zero, List.set_cons_succ, List.getElem?_cons_zero, List.getElem?_cons_succ] at r0 r1
          exact bodyPost_ret (v := .tuple #[.agg #[.int .i64 0, .slice none 0 0], .int .i64 (-1)]) (by simp [results, Try.results25, go_sem, r0, r1]) rfl (gives_dg_nil b8)
        · have hE : dgFixB d nn vr xx = toldD (runF (3 + xx) 13 d nn vr) := if_pos (by rw [k1, q1, q2, q3]; rfl)
          rw [hE]
          rw [q1] at L1
          rw [q2] at L2
          rw [q3] at L3
          have CP := Lib.hid (fun W (B : Below w.heap.size w W) => l8Copy_any d A d.forks.length c W (Mem.rd_on h1 B) (by omega))
          have gA := fit_fix q3 q1 q2
          have hx0 := (bitB_yes q3).1
          have CO := Lib.hid (fun A2 c2 base W ho hb => l8Fix_any xx hx0 13 d A2 c2 nn vr base W ho hb ok gA (rk_13 ok gA))
          have hfew : 0 ≤ (runF (3 + xx) 13 d nn vr).2 → (runF (3 + xx) 13 d nn vr).1.forks.length ≤ 2000 := fun h => (run_ok ok gA (rk_13 ok gA) h).2.1.few
          clear gA hx0
          generalize runF (3 + xx) 13 d nn vr = R at *
          have HW := Lib.hid hfew
          clear hfew
          obtain ⟨v, fs⟩ := d
          obtain ⟨⟨rm, rg⟩, re⟩ := R
          dsimp only at *
          clear hE k1 h1 ok q1 q2 q3
          go_enter Try.func25, Try.ntmps25
          go_wp2_with fail
          refine (CK.out _ B0).mono ?_
          rintro e w1 ⟨rfl, b1⟩
          obtain ⟨B1, kb1, kr1⟩ := BX.out _ b1
          have x0 := kb1.cell 0
          have x1 := kb1.cell 1
          have f0 := kr1.frozen 0
          have f1 := kr1.frozen 1
          have y0 := kr1.cell 0
          have y1 := kr1.cell 1
          simp only [List.getElem?_cons_zero, List.getElem?_cons_succ] at x0 x1 y0 y1
          go_wp2_with fail
          refine (L1.out _ B1).mono ?_
          rintro e w2 ⟨rfl, c2⟩
          have b2 := b1.trans (c2.mono b1.size)
          obtain ⟨B2, kb2, kr2⟩ := BX.out _ b2
          have x0 := kb2.cell 0
          have x1 := kb2.cell 1
          have f0 := kr2.frozen 0
          have f1 := kr2.frozen 1
          have y0 := kr2.cell 0
          have y1 := kr2.cell 1
          simp only [List.getElem?_cons_zero, List.getElem?_cons_succ] at x0 x1 y0 y1
          go_wp2_with fail
          refine (L2.out _ B2).mono ?_
          rintro e w3 ⟨rfl, c3⟩
          have b3 := b2.trans (c3.mono b2.size)
          obtain ⟨B3, kb3, kr3⟩ := BX.out _ b3
          have x0 := kb3.cell 0
          have x1 := kb3.cell 1
          have f0 := kr3.frozen 0
          have f1 := kr3.frozen 1
          have y0 := kr3.cell 0
          have y1 := kr3.cell 1
          simp only [List.getElem?_cons_zero, List.getElem?_cons_succ] at x0 x1 y0 y1
          go_wp2_with fail
          refine (L3.out _ B3).mono ?_
          rintro e w4 ⟨rfl, c4⟩
          have b4 := b3.trans (c4.mono b3.size)
          obtain ⟨B4, kb4, kr4⟩ := BX.out _ b4
          have x0 := kb4.cell 0
          have x1 := kb4.cell 1
          have f0 := kr4.frozen 0
          have f1 := kr4.frozen 1
          have y0 := kr4.cell 0
          have y1 := kr4.cell 1
          simp only [List.getElem?_cons_zero, List.getElem?_cons_succ] at x0 x1 y0 y1
          go_wp2_with fail
          refine (CP.out _ B4).mono ?_
          rintro e w6 ⟨A6, c6, rfl, ho6, c6b⟩
          have b6 := b4.trans (c6b.mono b4.size)
          go_wp2_with fail
          refine (CO.out A6 c6 w4.heap.size w6 ho6 c6b.size).mono ?_
          rintro e w7 ⟨on7, _, hc7⟩
          have d7 : Below w4.heap.size w6 w7 := on7.below c6b.size fun x hx => (ho6.lt x (mem_bl.1 hx)).1
          have b7 := b6.trans (d7.mono b4.size)
          obtain ⟨B7, kb7, kr7⟩ := BX.out _ b7
          have x0 := kb7.cell 0
          have x1 := kb7.cell 1
          have f0 := kr7.frozen 0
          have f1 := kr7.frozen 1
          have y0 := kr7.cell 0
          have y1 := kr7.cell 1
          simp only [List.getElem?_cons_zero, List.getElem?_cons_succ] at x0 x1 y0 y1
          rcases hc7 with ⟨hre, m7, A7, n7, c7, rfl⟩ | ⟨hre, A7, c7, rfl, ho7, _⟩
          · dsimp only at hre
            have hT : toldD (⟨rm, rg⟩, re) = (⟨0, []⟩, -1) := if_pos hre
            have HT := Lib.hid hT
            clear hT
            go_wp2_with fail
            refine (l8Told_no m7 A7 n7 c7 (-1) _ (by decide)).mono ?_
            rintro e w9 ⟨rfl, d9⟩
            have b9 := b7.trans ((below_call d9).mono b7.size)
            obtain ⟨B9, kb9, kr9⟩ := BX.out _ b9
            have x0 := kb9.cell 0
            have x1 := kb9.cell 1
            have f0 := kr9.frozen 0
            have f1 := kr9.frozen 1
            have y0 := kr9.cell 0
            have y1 := kr9.cell 1
            simp only [List.getElem?_cons_zero, List.getElem?_cons_succ] at x0 x1 y0 y1
            go_wp2
            have K2 := (kr9.set 0 (.int .i64 0)).set 1 (.slice none 0 0)
            have b8 := (B9.setCell (p := ⟨w.heap.size + 1, 0, none⟩) (Nat.le_succ _) (.int .i64 0)).setCell (p := ⟨w.heap.size + 1, 1, none⟩) (Nat.le_succ _) (.slice none 0 0)
            generalize (w9.setCell ⟨w.heap.size + 1, 0, none⟩ (.int .i64 0)).setCell ⟨w.heap.size + 1, 1, none⟩ (.slice none 0 0) = w8 at K2 b8 ⊢
            have r0 := K2.cell 0
            have r1 := K2.cell 1
            simp only [List.set_cons_zero, List.set_cons_succ, List.getElem?_cons_zero, List.getElem?_cons_succ] at r0 r1
            exact bodyPost_ret (v := .tuple #[.agg #[.int .i64 0, .slice none 0 0], .int .i64 (-1)]) (by simp [results, Try.results25, go_sem, r0, r1]) rfl (by rw [HT.out]; exact gives_dg_nil b8)
          · dsimp only at hre ho7
            have hT : toldD (⟨rm, rg⟩, re) = (⟨rm, rg⟩, re) := if_neg (by show ¬ re < 0; omega)
            have HT := Lib.hid hT
            clear hT
            have O7 := Lib.hid ho7
            clear ho7
            go_wp2_with fail
            refine (l8Told_yes rm A7 rg.length c7 re _ (by omega)).mono ?_
            rintro e w9 ⟨rfl, d9⟩
            have d9 := below_call d9
            have b9 := b7.trans (d9.mono b7.size)
            obtain ⟨B9, kb9, kr9⟩ := BX.out _ b9
            have x0 := kb9.cell 0
            have x1 := kb9.cell 1
            have f0 := kr9.frozen 0
            have f1 := kr9.frozen 1
            have y0 := kr9.cell 0
            have y1 := kr9.cell 1
            simp only [List.getElem?_cons_zero, List.getElem?_cons_succ] at x0 x1 y0 y1
            have hz9 : w.heap.size + 1 < w4.heap.size := kr4.lt
            have o9 := own_below O7.out d9
            have n9 : (Value.slice A7 (rg).length c7).ownBlock ≠ some (w.heap.size + 1) := fun e => by have := (o9.lt _ e).1; (try simp only [World.size_alloc] at this); omega
            go_wp2
            have K2 := (kr9.set 0 (.int .i64 rm)).set 1 (.slice A7 (rg).length c7)
            have o8 := own_away (own_away o9 (p := ⟨w.heap.size + 1, 0, none⟩) (.int .i64 rm) n9) (p := ⟨w.heap.size + 1, 1, none⟩) (.slice A7 (rg).length c7) n9
            have b8 := (B9.setCell (p := ⟨w.heap.size + 1, 0, none⟩) (Nat.le_succ _) (.int .i64 rm)).setCell (p := ⟨w.heap.size + 1, 1, none⟩) (Nat.le_succ _) (.slice A7 (rg).length c7)
            generalize (w9.setCell ⟨w.heap.size + 1, 0, none⟩ (.int .i64 rm)).setCell ⟨w.heap.size + 1, 1, none⟩ (.slice A7 (rg).length c7) = w8 at K2 b8 o8 ⊢
            have r0 := K2.cell 0
            have r1 := K2.cell 1
            simp only [List.set_cons_zero, List.set_cons_succ, List.getElem?_cons_zero, List.getElem?_cons_succ] at r0 r1
            obtain ⟨fp, q1, q2, q3⟩ := own_flat (α := Fk) o8 rfl (by unfold maxLen; have := HW.out hre; omega)
            exact bodyPost_ret (v := .tuple #[.agg #[.int .i64 rm, .slice A7 (rg).length c7], .int .i64 re]) (by simp [results, Try.results25, go_sem, r0, r1]) rfl (by rw [HT.out]; exact ⟨A7, _, c7, fp, rfl, q1, q2, fun x hx => by have := q3 x hx; have := kb4.lt; omega, b8⟩)

noncomputable def dgFix0B (d : Dg) (nn vr : Int) : Dg × Int := if (dgB d && isP d nn && varIn d vr) = true then toldD (runF 3 13 d nn vr) else (⟨0, []⟩, -1)
theorem dgFix0_eq (d : Dg) (nn vr : Int) : dgFixB d nn vr 0 = dgFix0B d nn vr := by
  unfold dgFixB dgFix0B
  rw [show bitB 0 = true by decide, Bool.and_true]
  rfl
set_option maxRecDepth 100000 in
set_option maxHeartbeats 4000000 in
theorem dgFix0_impl (d : Dg) (nn vr : Int) (A : Option Addr) (n c : Nat) (w : World) (h1 : Mem.rd w w.heap.size [.slice A n c] d.forks) :
    Calls Try.prog 27 #[.agg #[.int .i64 d.vars, .slice A n c], .int .i64 nn, .int .i64 vr, .int .i64 0] w (GivesDgN w (dgFix0B d nn vr).1 (dgFix0B d nn vr).2) := by
  obtain rfl : d.forks.length = n := rd_len h1
  have MK := Lib.hid (fun W (B : Below w.heap.size w W) => makerD_any d [nn] A d.forks.length c (some ⟨W.heap.size, 0, none⟩) 1 1 (W.alloc (.cells #[.int .i64 nn] 3)) (Mem.rd_on_alloc (Mem.rd_on h1 B) _) (rd_newD1 W nn))
  have BX := Lib.hid (two_boxes w #[.int .i64 d.vars, .slice A d.forks.length c] #[.int .i64 0, .slice none 0 0] 46 46)
  have B0 : Below w.heap.size w ((w.alloc (.cells #[.int .i64 d.vars, .slice A d.forks.length c] 46)).alloc (.cells #[.int .i64 0, .slice none 0 0] 46)) := (below_alloc w _).alloc (by simp) _
  have L1 := Lib.hid (fun W (_ : Below w.heap.size w W) => hasVarIn d A d.forks.length c vr W)
  cases q1 : varIn d vr
  · have HBAD : Hid (dgFix0B d nn vr = (⟨0, []⟩, -1)) := Lib.hid (if_neg (by rw [q1]; simp))
    have HNO : Hid ((dgB d && areP d [nn]) = false → dgFix0B d nn vr = (⟨0, []⟩, -1)) := Lib.hid (fun _ => HBAD.out)
    rw [q1] at L1
    generalize dgFix0B d nn vr = R at *
    obtain ⟨v, fs⟩ := d
    dsimp only [Fk.u] at *
    clear h1 q1
    have MK0 := MK.out _ B0
    simp only [World.size_alloc] at MK0
    go_enter Try.func27, Try.ntmps27
    go_wp2_with fail
    refine MK0.mono ?_
    rintro e w1 (⟨hq, rfl, b1'⟩ | ⟨hq, g, rfl, hm1, b1'⟩)
    · have b1 := below_call b1'
      have HT := Lib.hid (HNO.out hq)
      clear hq
      obtain ⟨B1, kb1, kr1⟩ := BX.out _ b1
      have x0 := kb1.cell 0
      have x1 := kb1.cell 1
      have f0 := kr1.frozen 0
      have f1 := kr1.frozen 1
      have y0 := kr1.cell 0
      have y1 := kr1.cell 1
      simp only [List.getElem?_cons_zero, List.getElem?_cons_succ] at x0 x1 y0 y1
      go_wp2
      have K2 := (kr1.set 0 (.int .i64 0)).set 1 (.slice none 0 0)
      have b8 := (B1.setCell (p := ⟨w.heap.size + 1, 0, none⟩) (Nat.le_succ _) (.int .i64 0)).setCell (p := ⟨w.heap.size + 1, 1, none⟩) (Nat.le_succ _) (.slice none 0 0)
      generalize (w1.setCell ⟨w.heap.size + 1, 0, none⟩ (.int .i64 0)).setCell ⟨w.heap.size + 1, 1, none⟩ (.slice none 0 0) = w8 at K2 b8 ⊢
      have r0 := K2.cell 0
      have r1 := K2.cell 1
      simp only [List.set_cons_zero, List.set_cons_succ, List.getElem?_cons_zero, List.getElem?_cons_succ] at r0 r1
      exact bodyPost_ret (v := .tuple #[.agg #[.int .i64 0, .slice none 0 0], .int .i64 (-1)]) (by simp [results, Try.results27, go_sem, r0, r1]) rfl (by rw [HT.out]; exact gives_dg_nil b8)
    · have hn0 := hm1.ok.few
      dsimp only at hn0
      have hn : fs.length ≤ 100000 := by omega
      have b1 := below_call b1'
      obtain ⟨B1, kb1, kr1⟩ := BX.out _ b1
      have x0 := kb1.cell 0
      have x1 := kb1.cell 1
      have f0 := kr1.frozen 0
      have f1 := kr1.frozen 1
      have y0 := kr1.cell 0
      have y1 := kr1.cell 1
      simp only [List.getElem?_cons_zero, List.getElem?_cons_succ] at x0 x1 y0 y1
      go_wp2_with fail
      refine (L1.out _ B1).mono ?_
      rintro e w2 ⟨rfl, c2⟩

      have b2 := b1.trans (c2.mono b1.size)
      obtain ⟨B2, kb2, kr2⟩ := BX.out _ b2
      have x0 := kb2.cell 0
      have x1 := kb2.cell 1
      have f0 := kr2.frozen 0
      have f1 := kr2.frozen 1
      have y0 := kr2.cell 0
      have y1 := kr2.cell 1
      simp only [List.getElem?_cons_zero, List.getElem?_cons_succ] at x0 x1 y0 y1
      have HT := Lib.hid HBAD.out
      clear hq
      go_wp2
      have K2 := (kr2.set 0 (.int .i64 0)).set 1 (.slice none 0 0)
      have b8 := (B2.setCell (p := ⟨w.heap.size + 1, 0, none⟩) (Nat.le_succ _) (.int .i64 0)).setCell (p := ⟨w.heap.size + 1, 1, none⟩) (Nat.le_succ _) (.slice none 0 0)
      generalize (w2.setCell ⟨w.heap.size + 1, 0, none⟩ (.int .i64 0)).setCell ⟨w.heap.size + 1, 1, none⟩ (.slice none 0 0) = w8 at K2 b8 ⊢
      have r0 := K2.cell 0
      have r1 := K2.cell 1
      simp only [List.set_cons_zero, List.set_cons_succ, List.getElem?_cons_zero, List.getElem?_cons_succ] at r0 r1
      exact bodyPost_ret (v := .tuple #[.agg #[.int .i64 0, .slice none 0 0], .int .i64 (-1)]) (by simp [results, Try.results27, go_sem, r0, r1]) rfl (by rw [HT.out]; exact gives_dg_nil b8)
  · rw [q1] at L1
    have HNO : Hid ((dgB d && areP d [nn]) = false → dgFix0B d nn vr = (⟨0, []⟩, -1)) := Lib.hid (fun hq => if_neg (fun h => by
      simp only [Bool.and_eq_true] at h
      have hq2 : (dgB d && areP d [nn]) = true := by simp only [areP, List.all_cons, List.all_nil, Bool.and_true, Bool.and_eq_true]; simp [h]
      rw [hq] at hq2; cases hq2))
    have HYES : Hid ((dgB d && areP d [nn]) = true → dgFix0B d nn vr = toldD (runF 3 13 d nn vr)) := Lib.hid (fun hq => if_pos (by
      simp only [areP, List.all_cons, List.all_nil, Bool.and_true, Bool.and_eq_true] at hq ⊢
      simp [hq, q1]))
    have CO : Hid ((dgB d && areP d [nn]) = true → ∀ base g W, MkD W base g d false 0 → base ≤ W.heap.size → Calls Try.prog 73 #[.pointer (some ⟨g, 0, none⟩), .int .i64 nn, .int .i64 vr, .int .i64 0] W (GivesRun base g d 3 nn vr false (0 + 3 ^ 13) W)) := Lib.hid (fun hq base g W hM hb =>
      have gA : fitA d 3 nn vr := fit_fix (x := 0) (by decide) (show isP d nn = true by simp only [areP, List.all_cons, List.all_nil, Bool.and_true, Bool.and_eq_true] at hq; simp [hq]) q1
      fix0_any 13 d nn vr false 0 base g W hM hb gA (rk_13 hM.ok gA) (by decide))
    generalize dgFix0B d nn vr = R at *
    obtain ⟨v, fs⟩ := d
    dsimp only [Fk.u] at *
    clear h1 q1
    have MK0 := MK.out _ B0
    simp only [World.size_alloc] at MK0
    go_enter Try.func27, Try.ntmps27
    go_wp2_with fail
    refine MK0.mono ?_
    rintro e w1 (⟨hq, rfl, b1'⟩ | ⟨hq, g, rfl, hm1, b1'⟩)
    · have b1 := below_call b1'
      have HT := Lib.hid (HNO.out hq)
      clear hq
      obtain ⟨B1, kb1, kr1⟩ := BX.out _ b1
      have x0 := kb1.cell 0
      have x1 := kb1.cell 1
      have f0 := kr1.frozen 0
      have f1 := kr1.frozen 1
      have y0 := kr1.cell 0
      have y1 := kr1.cell 1
      simp only [List.getElem?_cons_zero, List.getElem?_cons_succ] at x0 x1 y0 y1
      go_wp2
      have K2 := (kr1.set 0 (.int .i64 0)).set 1 (.slice none 0 0)
      have b8 := (B1.setCell (p := ⟨w.heap.size + 1, 0, none⟩) (Nat.le_succ _) (.int .i64 0)).setCell (p := ⟨w.heap.size + 1, 1, none⟩) (Nat.le_succ _) (.slice none 0 0)
      generalize (w1.setCell ⟨w.heap.size + 1, 0, none⟩ (.int .i64 0)).setCell ⟨w.heap.size + 1, 1, none⟩ (.slice none 0 0) = w8 at K2 b8 ⊢
      have r0 := K2.cell 0
      have r1 := K2.cell 1
      simp only [List.set_cons_zero, List.set_cons_succ, List.getElem?_cons_zero, List.getElem?_cons_succ] at r0 r1
      exact bodyPost_ret (v := .tuple #[.agg #[.int .i64 0, .slice none 0 0], .int .i64 (-1)]) (by simp [results, Try.results27, go_sem, r0, r1]) rfl (by rw [HT.out]; exact gives_dg_nil b8)
    · have hn0 := hm1.ok.few
      dsimp only at hn0
      have hn : fs.length ≤ 100000 := by omega
      have b1 := below_call b1'
      obtain ⟨B1, kb1, kr1⟩ := BX.out _ b1
      have x0 := kb1.cell 0
      have x1 := kb1.cell 1
      have f0 := kr1.frozen 0
      have f1 := kr1.frozen 1
      have y0 := kr1.cell 0
      have y1 := kr1.cell 1
      simp only [List.getElem?_cons_zero, List.getElem?_cons_succ] at x0 x1 y0 y1
      go_wp2_with fail
      refine (L1.out _ B1).mono ?_
      rintro e w2 ⟨rfl, c2⟩

      have b2 := b1.trans (c2.mono b1.size)
      obtain ⟨B2, kb2, kr2⟩ := BX.out _ b2
      have x0 := kb2.cell 0
      have x1 := kb2.cell 1
      have f0 := kr2.frozen 0
      have f1 := kr2.frozen 1
      have y0 := kr2.cell 0
      have y1 := kr2.cell 1
      simp only [List.getElem?_cons_zero, List.getElem?_cons_succ] at x0 x1 y0 y1
      have HT0 := Lib.hid (HYES.out hq)
      have HCO := Lib.hid (CO.out hq)
      clear hq
      go_wp2_with fail
      refine (HCO.out _ g _ (mkD_below hm1 c2) (Nat.le_trans b1'.size c2.size)).mono ?_
      rintro e w7 ⟨x7, ⟨rm, rg⟩, full7, rfl, hm7, c7, P7, _⟩
      have b7 := b2.trans (c7.mono (by first | exact Nat.le_refl _ | (simp only [World.size_alloc]; omega)))
      obtain ⟨B7, kb7, kr7⟩ := BX.out _ b7
      have x0 := kb7.cell 0
      have x1 := kb7.cell 1
      have f0 := kr7.frozen 0
      have f1 := kr7.frozen 1
      have y0 := kr7.cell 0
      have y1 := kr7.cell 1
      simp only [List.getElem?_cons_zero, List.getElem?_cons_succ] at x0 x1 y0 y1
      cases full7
      · obtain ⟨_, hcore⟩ := P7.new rfl
        have hx7 := (isP_iff.1 P7.isP).1
        have HT := Lib.hid (HT0.out.trans ((congrArg toldD hcore).trans (if_neg (by show ¬ x7 < 0; omega))))
        have few7 := hm7.ok.few
        clear P7 hcore HT0 HCO
        dsimp only at few7
        go_wp2_with fail
        refine (toldP_yes _ x7 _ g _ _ hm7).mono ?_
        rintro e w9 ⟨A7, c7, rfl, o9, d9⟩
        dsimp only at o9
        have b9 := b7.trans (d9.mono b7.size)
        obtain ⟨B9, kb9, kr9⟩ := BX.out _ b9
        have x0 := kb9.cell 0
        have x1 := kb9.cell 1
        have f0 := kr9.frozen 0
        have f1 := kr9.frozen 1
        have y0 := kr9.cell 0
        have y1 := kr9.cell 1
        simp only [List.getElem?_cons_zero, List.getElem?_cons_succ] at x0 x1 y0 y1
        have n9 : (Value.slice A7 (rg).length c7).ownBlock ≠ some (w.heap.size + 1) := fun e => by have := (o9.lt _ e).1; (try simp only [World.size_alloc] at this); omega
        go_wp2
        have K2 := (kr9.set 0 (.int .i64 rm)).set 1 (.slice A7 (rg).length c7)
        have o8 := own_away (own_away o9 (p := ⟨w.heap.size + 1, 0, none⟩) (.int .i64 rm) n9) (p := ⟨w.heap.size + 1, 1, none⟩) (.slice A7 (rg).length c7) n9
        have b8 := (B9.setCell (p := ⟨w.heap.size + 1, 0, none⟩) (Nat.le_succ _) (.int .i64 rm)).setCell (p := ⟨w.heap.size + 1, 1, none⟩) (Nat.le_succ _) (.slice A7 (rg).length c7)
        generalize (w9.setCell ⟨w.heap.size + 1, 0, none⟩ (.int .i64 rm)).setCell ⟨w.heap.size + 1, 1, none⟩ (.slice A7 (rg).length c7) = w8 at K2 b8 o8 ⊢
        have r0 := K2.cell 0
        have r1 := K2.cell 1
        simp only [List.set_cons_zero, List.set_cons_succ, List.getElem?_cons_zero, List.getElem?_cons_succ] at r0 r1
        obtain ⟨fp, q1, q2, q3⟩ := own_flat (α := Fk) o8 rfl (by unfold maxLen; have := few7; omega)
        exact bodyPost_ret (v := .tuple #[.agg #[.int .i64 rm, .slice A7 (rg).length c7], .int .i64 x7]) (by simp [results, Try.results27, go_sem, r0, r1]) rfl (by rw [HT.out]; exact ⟨A7, _, c7, fp, rfl, q1, q2, fun x hx => by have := q3 x hx; have := B0.size; (try simp only [World.size_alloc] at *); omega, b8⟩)
      · have HT := Lib.hid (HT0.out.trans (if_pos (by
          rcases P7.no rfl with q | q
          · cases q
          · exact q)))
        clear P7 HT0 HCO
        go_wp2_with fail
        refine (toldP_no _ x7 _ g _ _ hm7).mono ?_
        rintro e w9 ⟨rfl, d9⟩
        have b9 := b7.trans (d9.mono b7.size)
        obtain ⟨B9, kb9, kr9⟩ := BX.out _ b9
        have x0 := kb9.cell 0
        have x1 := kb9.cell 1
        have f0 := kr9.frozen 0
        have f1 := kr9.frozen 1
        have y0 := kr9.cell 0
        have y1 := kr9.cell 1
        simp only [List.getElem?_cons_zero, List.getElem?_cons_succ] at x0 x1 y0 y1
        go_wp2
        have K2 := (kr9.set 0 (.int .i64 0)).set 1 (.slice none 0 0)
        have b8 := (B9.setCell (p := ⟨w.heap.size + 1, 0, none⟩) (Nat.le_succ _) (.int .i64 0)).setCell (p := ⟨w.heap.size + 1, 1, none⟩) (Nat.le_succ _) (.slice none 0 0)
        generalize (w9.setCell ⟨w.heap.size + 1, 0, none⟩ (.int .i64 0)).setCell ⟨w.heap.size + 1, 1, none⟩ (.slice none 0 0) = w8 at K2 b8 ⊢
        have r0 := K2.cell 0
        have r1 := K2.cell 1
        simp only [List.set_cons_zero, List.set_cons_succ, List.getElem?_cons_zero, List.getElem?_cons_succ] at r0 r1
        exact bodyPost_ret (v := .tuple #[.agg #[.int .i64 0, .slice none 0 0], .int .i64 (-1)]) (by simp [results, Try.results27, go_sem, r0, r1]) rfl (by rw [HT.out]; exact gives_dg_nil b8)

noncomputable def dgFix1B (d : Dg) (nn vr : Int) : Dg × Int := if (dgB d && isP d nn && varIn d vr) = true then toldD (runF 4 13 d nn vr) else (⟨0, []⟩, -1)
theorem dgFix1_eq (d : Dg) (nn vr : Int) : dgFixB d nn vr 1 = dgFix1B d nn vr := by
  unfold dgFixB dgFix1B
  rw [show bitB 1 = true by decide, Bool.and_true]
  rfl
set_option maxRecDepth 100000 in
set_option maxHeartbeats 4000000 in
theorem dgFix1_impl (d : Dg) (nn vr : Int) (A : Option Addr) (n c : Nat) (w : World) (h1 : Mem.rd w w.heap.size [.slice A n c] d.forks) :
    Calls Try.prog 27 #[.agg #[.int .i64 d.vars, .slice A n c], .int .i64 nn, .int .i64 vr, .int .i64 1] w (GivesDgN w (dgFix1B d nn vr).1 (dgFix1B d nn vr).2) := by
  obtain rfl : d.forks.length = n := rd_len h1
  have MK := Lib.hid (fun W (B : Below w.heap.size w W) => makerD_any d [nn] A d.forks.length c (some ⟨W.heap.size, 0, none⟩) 1 1 (W.alloc (.cells #[.int .i64 nn] 3)) (Mem.rd_on_alloc (Mem.rd_on h1 B) _) (rd_newD1 W nn))
  have BX := Lib.hid (two_boxes w #[.int .i64 d.vars, .slice A d.forks.length c] #[.int .i64 0, .slice none 0 0] 46 46)
  have B0 : Below w.heap.size w ((w.alloc (.cells #[.int .i64 d.vars, .slice A d.forks.length c] 46)).alloc (.cells #[.int .i64 0, .slice none 0 0] 46)) := (below_alloc w _).alloc (by simp) _
  have L1 := Lib.hid (fun W (_ : Below w.heap.size w W) => hasVarIn d A d.forks.length c vr W)
  cases q1 : varIn d vr
  · have HBAD : Hid (dgFix1B d nn vr = (⟨0, []⟩, -1)) := Lib.hid (if_neg (by rw [q1]; simp))
    have HNO : Hid ((dgB d && areP d [nn]) = false → dgFix1B d nn vr = (⟨0, []⟩, -1)) := Lib.hid (fun _ => HBAD.out)
    rw [q1] at L1
    generalize dgFix1B d nn vr = R at *
    obtain ⟨v, fs⟩ := d
    dsimp only [Fk.u] at *
    clear h1 q1
    have MK0 := MK.out _ B0
    simp only [World.size_alloc] at MK0
    go_enter Try.func27, Try.ntmps27
    go_wp2_with fail
    refine MK0.mono ?_
    rintro e w1 (⟨hq, rfl, b1'⟩ | ⟨hq, g, rfl, hm1, b1'⟩)
    · have b1 := below_call b1'
      have HT := Lib.hid (HNO.out hq)
      clear hq
      obtain ⟨B1, kb1, kr1⟩ := BX.out _ b1
      have x0 := kb1.cell 0
      have x1 := kb1.cell 1
      have f0 := kr1.frozen 0
      have f1 := kr1.frozen 1
      have y0 := kr1.cell 0
      have y1 := kr1.cell 1
      simp only [List.getElem?_cons_zero, List.getElem?_cons_succ] at x0 x1 y0 y1
      go_wp2
      have K2 := (kr1.set 0 (.int .i64 0)).set 1 (.slice none 0 0)
      have b8 := (B1.setCell (p := ⟨w.heap.size + 1, 0, none⟩) (Nat.le_succ _) (.int .i64 0)).setCell (p := ⟨w.heap.size + 1, 1, none⟩) (Nat.le_succ _) (.slice none 0 0)
      generalize (w1.setCell ⟨w.heap.size + 1, 0, none⟩ (.int .i64 0)).setCell ⟨w.heap.size + 1, 1, none⟩ (.slice none 0 0) = w8 at K2 b8 ⊢
      have r0 := K2.cell 0
      have r1 := K2.cell 1
      simp only [List.set_cons_zero, List.set_cons_succ, List.getElem?_cons_zero, List.getElem?_cons_succ] at r0 r1
      exact bodyPost_ret (v := .tuple #[.agg #[.int .i64 0, .slice none 0 0], .int .i64 (-1)]) (by simp [results, Try.results27, go_sem, r0, r1]) rfl (by rw [HT.out]; exact gives_dg_nil b8)
    · have hn0 := hm1.ok.few
      dsimp only at hn0
      have hn : fs.length ≤ 100000 := by omega
      have b1 := below_call b1'
      obtain ⟨B1, kb1, kr1⟩ := BX.out _ b1
      have x0 := kb1.cell 0
      have x1 := kb1.cell 1
      have f0 := kr1.frozen 0
      have f1 := kr1.frozen 1
      have y0 := kr1.cell 0
      have y1 := kr1.cell 1
      simp only [List.getElem?_cons_zero, List.getElem?_cons_succ] at x0 x1 y0 y1
      go_wp2_with fail
      refine (L1.out _ B1).mono ?_
      rintro e w2 ⟨rfl, c2⟩

      have b2 := b1.trans (c2.mono b1.size)
      obtain ⟨B2, kb2, kr2⟩ := BX.out _ b2
      have x0 := kb2.cell 0
      have x1 := kb2.cell 1
      have f0 := kr2.frozen 0
      have f1 := kr2.frozen 1
      have y0 := kr2.cell 0
      have y1 := kr2.cell 1
      simp only [List.getElem?_cons_zero, List.getElem?_cons_succ] at x0 x1 y0 y1
      have HT := Lib.hid HBAD.out
      clear hq
      go_wp2
      have K2 := (kr2.set 0 (.int .i64 0)).set 1 (.slice none 0 0)
      have b8 := (B2.setCell (p := ⟨w.heap.size + 1, 0, none⟩) (Nat.le_succ _) (.int .i64 0)).setCell (p := ⟨w.heap.size + 1, 1, none⟩) (Nat.le_succ _) (.slice none 0 0)
      generalize (w2.setCell ⟨w.heap.size + 1, 0, none⟩ (.int .i64 0)).setCell ⟨w.heap.size + 1, 1, none⟩ (.slice none 0 0) = w8 at K2 b8 ⊢
      have r0 := K2.cell 0
      have r1 := K2.cell 1
      simp only [List.set_cons_zero, List.set_cons_succ, List.getElem?_cons_zero, List.getElem?_cons_succ] at r0 r1
      exact bodyPost_ret (v := .tuple #[.agg #[.int .i64 0, .slice none 0 0], .int .i64 (-1)]) (by simp [results, Try.results27, go_sem, r0, r1]) rfl (by rw [HT.out]; exact gives_dg_nil b8)
  · rw [q1] at L1
    have HNO : Hid ((dgB d && areP d [nn]) = false → dgFix1B d nn vr = (⟨0, []⟩, -1)) := Lib.hid (fun hq => if_neg (fun h => by
      simp only [Bool.and_eq_true] at h
      have hq2 : (dgB d && areP d [nn]) = true := by simp only [areP, List.all_cons, List.all_nil, Bool.and_true, Bool.and_eq_true]; simp [h]
      rw [hq] at hq2; cases hq2))
    have HYES : Hid ((dgB d && areP d [nn]) = true → dgFix1B d nn vr = toldD (runF 4 13 d nn vr)) := Lib.hid (fun hq => if_pos (by
      simp only [areP, List.all_cons, List.all_nil, Bool.and_true, Bool.and_eq_true] at hq ⊢
      simp [hq, q1]))
    have CO : Hid ((dgB d && areP d [nn]) = true → ∀ base g W, MkD W base g d false 0 → base ≤ W.heap.size → Calls Try.prog 73 #[.pointer (some ⟨g, 0, none⟩), .int .i64 nn, .int .i64 vr, .int .i64 1] W (GivesRun base g d 4 nn vr false (0 + 3 ^ 13) W)) := Lib.hid (fun hq base g W hM hb =>
      have gA : fitA d 4 nn vr := fit_fix (x := 1) (by decide) (show isP d nn = true by simp only [areP, List.all_cons, List.all_nil, Bool.and_true, Bool.and_eq_true] at hq; simp [hq]) q1
      fix1_any 13 d nn vr false 0 base g W hM hb gA (rk_13 hM.ok gA) (by decide))
    generalize dgFix1B d nn vr = R at *
    obtain ⟨v, fs⟩ := d
    dsimp only [Fk.u] at *
    clear h1 q1
    have MK0 := MK.out _ B0
    simp only [World.size_alloc] at MK0
    go_enter Try.func27, Try.ntmps27
    go_wp2_with fail
    refine MK0.mono ?_
    rintro e w1 (⟨hq, rfl, b1'⟩ | ⟨hq, g, rfl, hm1, b1'⟩)
    · have b1 := below_call b1'
      have HT := Lib.hid (HNO.out hq)
      clear hq
      obtain ⟨B1, kb1, kr1⟩ := BX.out _ b1
      have x0 := kb1.cell 0
      have x1 := kb1.cell 1
      have f0 := kr1.frozen 0
      have f1 := kr1.frozen 1
      have y0 := kr1.cell 0
      have y1 := kr1.cell 1
      simp only [List.getElem?_cons_zero, List.getElem?_cons_succ] at x0 x1 y0 y1
      go_wp2
      have K2 := (kr1.set 0 (.int .i64 0)).set 1 (.slice none 0 0)
      have b8 := (B1.setCell (p := ⟨w.heap.size + 1, 0, none⟩) (Nat.le_succ _) (.int .i64 0)).setCell (p := ⟨w.heap.size + 1, 1, none⟩) (Nat.le_succ _) (.slice none 0 0)
      generalize (w1.setCell ⟨w.heap.size + 1, 0, none⟩ (.int .i64 0)).setCell ⟨w.heap.size + 1, 1, none⟩ (.slice none 0 0) = w8 at K2 b8 ⊢
      have r0 := K2.cell 0
      have r1 := K2.cell 1
      simp only [List.set_cons_zero, List.set_cons_succ, List.getElem?_cons_zero, List.getElem?_cons_succ] at r0 r1
      exact bodyPost_ret (v := .tuple #[.agg #[.int .i64 0, .slice none 0 0], .int .i64 (-1)]) (by simp [results, Try.results27, go_sem, r0, r1]) rfl (by rw [HT.out]; exact gives_dg_nil b8)
    · have hn0 := hm1.ok.few
      dsimp only at hn0
      have hn : fs.length ≤ 100000 := by omega
      have b1 := below_call b1'
      obtain ⟨B1, kb1, kr1⟩ := BX.out _ b1
      have x0 := kb1.cell 0
      have x1 := kb1.cell 1
      have f0 := kr1.frozen 0
      have f1 := kr1.frozen 1
      have y0 := kr1.cell 0
      have y1 := kr1.cell 1
      simp only [List.getElem?_cons_zero, List.getElem?_cons_succ] at x0 x1 y0 y1
      go_wp2_with fail
      refine (L1.out _ B1).mono ?_
      rintro e w2 ⟨rfl, c2⟩

      have b2 := b1.trans (c2.mono b1.size)
      obtain ⟨B2, kb2, kr2⟩ := BX.out _ b2
      have x0 := kb2.cell 0
      have x1 := kb2.cell 1
      have f0 := kr2.frozen 0
      have f1 := kr2.frozen 1
      have y0 := kr2.cell 0
      have y1 := kr2.cell 1
      simp only [List.getElem?_cons_zero, List.getElem?_cons_succ] at x0 x1 y0 y1
      have HT0 := Lib.hid (HYES.out hq)
      have HCO := Lib.hid (CO.out hq)
      clear hq
      go_wp2_with fail
      refine (HCO.out _ g _ (mkD_below hm1 c2) (Nat.le_trans b1'.size c2.size)).mono ?_
      rintro e w7 ⟨x7, ⟨rm, rg⟩, full7, rfl, hm7, c7, P7, _⟩
      have b7 := b2.trans (c7.mono (by first | exact Nat.le_refl _ | (simp only [World.size_alloc]; omega)))
      obtain ⟨B7, kb7, kr7⟩ := BX.out _ b7
      have x0 := kb7.cell 0
      have x1 := kb7.cell 1
      have f0 := kr7.frozen 0
      have f1 := kr7.frozen 1
      have y0 := kr7.cell 0
      have y1 := kr7.cell 1
      simp only [List.getElem?_cons_zero, List.getElem?_cons_succ] at x0 x1 y0 y1
      cases full7
      · obtain ⟨_, hcore⟩ := P7.new rfl
        have hx7 := (isP_iff.1 P7.isP).1
        have HT := Lib.hid (HT0.out.trans ((congrArg toldD hcore).trans (if_neg (by show ¬ x7 < 0; omega))))
        have few7 := hm7.ok.few
        clear P7 hcore HT0 HCO
        dsimp only at few7
        go_wp2_with fail
        refine (toldP_yes _ x7 _ g _ _ hm7).mono ?_
        rintro e w9 ⟨A7, c7, rfl, o9, d9⟩
        dsimp only at o9
        have b9 := b7.trans (d9.mono b7.size)
        obtain ⟨B9, kb9, kr9⟩ := BX.out _ b9
        have x0 := kb9.cell 0
        have x1 := kb9.cell 1
        have f0 := kr9.frozen 0
        have f1 := kr9.frozen 1
        have y0 := kr9.cell 0
        have y1 := kr9.cell 1
        simp only [List.getElem?_cons_zero, List.getElem?_cons_succ] at x0 x1 y0 y1
        have n9 : (Value.slice A7 (rg).length c7).ownBlock ≠ some (w.heap.size + 1) := fun e => by have := (o9.lt _ e).1; (try simp only [World.size_alloc] at this); omega
        go_wp2
        have K2 := (kr9.set 0 (.int .i64 rm)).set 1 (.slice A7 (rg).length c7)
        have o8 := own_away (own_away o9 (p := ⟨w.heap.size + 1, 0, none⟩) (.int .i64 rm) n9) (p := ⟨w.heap.size + 1, 1, none⟩) (.slice A7 (rg).length c7) n9
        have b8 := (B9.setCell (p := ⟨w.heap.size + 1, 0, none⟩) (Nat.le_succ _) (.int .i64 rm)).setCell (p := ⟨w.heap.size + 1, 1, none⟩) (Nat.le_succ _) (.slice A7 (rg).length c7)
        generalize (w9.setCell ⟨w.heap.size + 1, 0, none⟩ (.int .i64 rm)).setCell ⟨w.heap.size + 1, 1, none⟩ (.slice A7 (rg).length c7) = w8 at K2 b8 o8 ⊢
        have r0 := K2.cell 0
        have r1 := K2.cell 1
        simp only [List.set_cons_zero, List.set_cons_succ, List.getElem?_cons_zero, List.getElem?_cons_succ] at r0 r1
        obtain ⟨fp, q1, q2, q3⟩ := own_flat (α := Fk) o8 rfl (by unfold maxLen; have := few7; omega)
        exact bodyPost_ret (v := .tuple #[.agg #[.int .i64 rm, .slice A7 (rg).length c7], .int .i64 x7]) (by simp [results, Try.results27, go_sem, r0, r1]) rfl (by rw [HT.out]; exact ⟨A7, _, c7, fp, rfl, q1, q2, fun x hx => by have := q3 x hx; have := B0.size; (try simp only [World.size_alloc] at *); omega, b8⟩)
      · have HT := Lib.hid (HT0.out.trans (if_pos (by
          rcases P7.no rfl with q | q
          · cases q
          · exact q)))
        clear P7 HT0 HCO
        go_wp2_with fail
        refine (toldP_no _ x7 _ g _ _ hm7).mono ?_
        rintro e w9 ⟨rfl, d9⟩
        have b9 := b7.trans (d9.mono b7.size)
        obtain ⟨B9, kb9, kr9⟩ := BX.out _ b9
        have x0 := kb9.cell 0
        have x1 := kb9.cell 1
        have f0 := kr9.frozen 0
        have f1 := kr9.frozen 1
        have y0 := kr9.cell 0
        have y1 := kr9.cell 1
        simp only [List.getElem?_cons_zero, List.getElem?_cons_succ] at x0 x1 y0 y1
        go_wp2
        have K2 := (kr9.set 0 (.int .i64 0)).set 1 (.slice none 0 0)
        have b8 := (B9.setCell (p := ⟨w.heap.size + 1, 0, none⟩) (Nat.le_succ _) (.int .i64 0)).setCell (p := ⟨w.heap.size + 1, 1, none⟩) (Nat.le_succ _) (.slice none 0 0)
        generalize (w9.setCell ⟨w.heap.size + 1, 0, none⟩ (.int .i64 0)).setCell ⟨w.heap.size + 1, 1, none⟩ (.slice none 0 0) = w8 at K2 b8 ⊢
        have r0 := K2.cell 0
        have r1 := K2.cell 1
        simp only [List.set_cons_zero, List.set_cons_succ, List.getElem?_cons_zero, List.getElem?_cons_succ] at r0 r1
        exact bodyPost_ret (v := .tuple #[.agg #[.int .i64 0, .slice none 0 0], .int .i64 (-1)]) (by simp [results, Try.results27, go_sem, r0, r1]) rfl (by rw [HT.out]; exact gives_dg_nil b8)
set_option maxRecDepth 100000 in
set_option maxHeartbeats 4000000 in
theorem dgFixN_impl (d : Dg) (nn vr xx : Int) (hbx : bitB xx = false) (A : Option Addr) (n c : Nat) (w : World) (h1 : Mem.rd w w.heap.size [.slice A n c] d.forks) :
    Calls Try.prog 27 #[.agg #[.int .i64 d.vars, .slice A n c], .int .i64 nn, .int .i64 vr, .int .i64 xx] w (GivesDgN w (dgFixB d nn vr xx).1 (dgFixB d nn vr xx).2) := by
  obtain rfl : d.forks.length = n := rd_len h1
  have MK := Lib.hid (fun W (B : Below w.heap.size w W) => makerD_any d [nn] A d.forks.length c (some ⟨W.heap.size, 0, none⟩) 1 1 (W.alloc (.cells #[.int .i64 nn] 3)) (Mem.rd_on_alloc (Mem.rd_on h1 B) _) (rd_newD1 W nn))
  have BX := Lib.hid (two_boxes w #[.int .i64 d.vars, .slice A d.forks.length c] #[.int .i64 0, .slice none 0 0] 46 46)
  have B0 : Below w.heap.size w ((w.alloc (.cells #[.int .i64 d.vars, .slice A d.forks.length c] 46)).alloc (.cells #[.int .i64 0, .slice none 0 0] 46)) := (below_alloc w _).alloc (by simp) _
  have L1 := Lib.hid (fun W (_ : Below w.heap.size w W) => hasVarIn d A d.forks.length c vr W)
  cases q1 : varIn d vr
  · have HBAD : Hid (dgFixB d nn vr xx = (⟨0, []⟩, -1)) := Lib.hid (if_neg (by rw [q1]; simp))
    have HNO : Hid ((dgB d && areP d [nn]) = false → dgFixB d nn vr xx = (⟨0, []⟩, -1)) := Lib.hid (fun _ => HBAD.out)
    rw [q1] at L1
    generalize dgFixB d nn vr xx = R at *
    obtain ⟨v, fs⟩ := d
    dsimp only [Fk.u] at *
    clear h1 q1
    have MK0 := MK.out _ B0
    simp only [World.size_alloc] at MK0
    go_enter Try.func27, Try.ntmps27
    go_wp2_with fail
    refine MK0.mono ?_
    rintro e w1 (⟨hq, rfl, b1'⟩ | ⟨hq, g, rfl, hm1, b1'⟩)
    · have b1 := below_call b1'
      have HT := Lib.hid (HNO.out hq)
      clear hq
      obtain ⟨B1, kb1, kr1⟩ := BX.out _ b1
      have x0 := kb1.cell 0
      have x1 := kb1.cell 1
      have f0 := kr1.frozen 0
      have f1 := kr1.frozen 1
      have y0 := kr1.cell 0
      have y1 := kr1.cell 1
      simp only [List.getElem?_cons_zero, List.getElem?_cons_succ] at x0 x1 y0 y1
      go_wp2
      have K2 := (kr1.set 0 (.int .i64 0)).set 1 (.slice none 0 0)
      have b8 := (B1.setCell (p := ⟨w.heap.size + 1, 0, none⟩) (Nat.le_succ _) (.int .i64 0)).setCell (p := ⟨w.heap.size + 1, 1, none⟩) (Nat.le_succ _) (.slice none 0 0)
      generalize (w1.setCell ⟨w.heap.size + 1, 0, none⟩ (.int .i64 0)).setCell ⟨w.heap.size + 1, 1, none⟩ (.slice none 0 0) = w8 at K2 b8 ⊢
      have r0 := K2.cell 0
      have r1 := K2.cell 1
      simp only [List.set_cons_zero, List.set_cons_succ, List.getElem?_cons_zero, List.getElem?_cons_succ] at r0 r1
      exact bodyPost_ret (v := .tuple #[.agg #[.int .i64 0, .slice none 0 0], .int .i64 (-1)]) (by simp [results, Try.results27, go_sem, r0, r1]) rfl (by rw [HT.out]; exact gives_dg_nil b8)
    · have hn0 := hm1.ok.few
      dsimp only at hn0
      have hn : fs.length ≤ 100000 := by omega
      have b1 := below_call b1'
      obtain ⟨B1, kb1, kr1⟩ := BX.out _ b1
      have x0 := kb1.cell 0
      have x1 := kb1.cell 1
      have f0 := kr1.frozen 0
      have f1 := kr1.frozen 1
      have y0 := kr1.cell 0
      have y1 := kr1.cell 1
      simp only [List.getElem?_cons_zero, List.getElem?_cons_succ] at x0 x1 y0 y1
      go_wp2_with fail
      refine (L1.out _ B1).mono ?_
      rintro e w2 ⟨rfl, c2⟩

      have b2 := b1.trans (c2.mono b1.size)
      obtain ⟨B2, kb2, kr2⟩ := BX.out _ b2
      have x0 := kb2.cell 0
      have x1 := kb2.cell 1
      have f0 := kr2.frozen 0
      have f1 := kr2.frozen 1
      have y0 := kr2.cell 0
      have y1 := kr2.cell 1
      simp only [List.getElem?_cons_zero, List.getElem?_cons_succ] at x0 x1 y0 y1
      have HT := Lib.hid HBAD.out
      clear hq
      go_wp2
      have K2 := (kr2.set 0 (.int .i64 0)).set 1 (.slice none 0 0)
      have b8 := (B2.setCell (p := ⟨w.heap.size + 1, 0, none⟩) (Nat.le_succ _) (.int .i64 0)).setCell (p := ⟨w.heap.size + 1, 1, none⟩) (Nat.le_succ _) (.slice none 0 0)
      generalize (w2.setCell ⟨w.heap.size + 1, 0, none⟩ (.int .i64 0)).setCell ⟨w.heap.size + 1, 1, none⟩ (.slice none 0 0) = w8 at K2 b8 ⊢
      have r0 := K2.cell 0
      have r1 := K2.cell 1
      simp only [List.set_cons_zero, List.set_cons_succ, List.getElem?_cons_zero, List.getElem?_cons_succ] at r0 r1
      exact bodyPost_ret (v := .tuple #[.agg #[.int .i64 0, .slice none 0 0], .int .i64 (-1)]) (by simp [results, Try.results27, go_sem, r0, r1]) rfl (by rw [HT.out]; exact gives_dg_nil b8)
  · rw [q1] at L1
    -- @@obtain ⟨n0, n1⟩ := bitB_no q2
    cases q2 : bitB xx
    · have HBAD : Hid (dgFixB d nn vr xx = (⟨0, []⟩, -1)) := Lib.hid (if_neg (by rw [q2]; simp))
      have HNO : Hid ((dgB d && areP d [nn]) = false → dgFixB d nn vr xx = (⟨0, []⟩, -1)) := Lib.hid (fun _ => HBAD.out)
      obtain ⟨n0, n1⟩ := bitB_no q2
      generalize dgFixB d nn vr xx = R at *
      obtain ⟨v, fs⟩ := d
      dsimp only [Fk.u] at *
      clear h1 q1 q2
      have MK0 := MK.out _ B0
      simp only [World.size_alloc] at MK0
      go_enter Try.func27, Try.ntmps27
      go_wp2_with fail
      refine MK0.mono ?_
      rintro e w1 (⟨hq, rfl, b1'⟩ | ⟨hq, g, rfl, hm1, b1'⟩)
      · have b1 := below_call b1'
        have HT := Lib.hid (HNO.out hq)
        clear hq
        obtain ⟨B1, kb1, kr1⟩ := BX.out _ b1
        have x0 := kb1.cell 0
        have x1 := kb1.cell 1
        have f0 := kr1.frozen 0
        have f1 := kr1.frozen 1
        have y0 := kr1.cell 0
        have y1 := kr1.cell 1
        simp only [List.getElem?_cons_zero, List.getElem?_cons_succ] at x0 x1 y0 y1
        go_wp2
        have K2 := (kr1.set 0 (.int .i64 0)).set 1 (.slice none 0 0)
        have b8 := (B1.setCell (p := ⟨w.heap.size + 1, 0, none⟩) (Nat.le_succ _) (.int .i64 0)).setCell (p := ⟨w.heap.size + 1, 1, none⟩) (Nat.le_succ _) (.slice none 0 0)
        generalize (w1.setCell ⟨w.heap.size + 1, 0, none⟩ (.int .i64 0)).setCell ⟨w.heap.size + 1, 1, none⟩ (.slice none 0 0) = w8 at K2 b8 ⊢
        have r0 := K2.cell 0
        have r1 := K2.cell 1
        simp only [List.set_cons_zero, List.set_cons_succ, List.getElem?_cons_zero, List.getElem?_cons_succ] at r0 r1
        exact bodyPost_ret (v := .tuple #[.agg #[.int .i64 0, .slice none 0 0], .int .i64 (-1)]) (by simp [results, Try.results27, go_sem, r0, r1]) rfl (by rw [HT.out]; exact gives_dg_nil b8)
      · have hn0 := hm1.ok.few
        dsimp only at hn0
        have hn : fs.length ≤ 100000 := by omega
        have b1 := below_call b1'
        obtain ⟨B1, kb1, kr1⟩ := BX.out _ b1
        have x0 := kb1.cell 0
        have x1 := kb1.cell 1
        have f0 := kr1.frozen 0
        have f1 := kr1.frozen 1
        have y0 := kr1.cell 0
        have y1 := kr1.cell 1
        simp only [List.getElem?_cons_zero, List.getElem?_cons_succ] at x0 x1 y0 y1
        go_wp2_with fail
        refine (L1.out _ B1).mono ?_
        rintro e w2 ⟨rfl, c2⟩

        have b2 := b1.trans (c2.mono b1.size)
        obtain ⟨B2, kb2, kr2⟩ := BX.out _ b2
        have x0 := kb2.cell 0
        have x1 := kb2.cell 1
        have f0 := kr2.frozen 0
        have f1 := kr2.frozen 1
        have y0 := kr2.cell 0
        have y1 := kr2.cell 1
        simp only [List.getElem?_cons_zero, List.getElem?_cons_succ] at x0 x1 y0 y1
        have HT := Lib.hid HBAD.out
        clear hq
        go_wp2
        have K2 := (kr2.set 0 (.int .i64 0)).set 1 (.slice none 0 0)
        have b8 := (B2.setCell (p := ⟨w.heap.size + 1, 0, none⟩) (Nat.le_succ _) (.int .i64 0)).setCell (p := ⟨w.heap.size + 1, 1, none⟩) (Nat.le_succ _) (.slice none 0 0)
        generalize (w2.setCell ⟨w.heap.size + 1, 0, none⟩ (.int .i64 0)).setCell ⟨w.heap.size + 1, 1, none⟩ (.slice none 0 0) = w8 at K2 b8 ⊢
        have r0 := K2.cell 0
        have r1 := K2.cell 1
        simp only [List.set_cons_zero, List.set_cons_succ, List.getElem?_cons_zero, List.getElem?_cons_succ] at r0 r1
        exact bodyPost_ret (v := .tuple #[.agg #[.int .i64 0, .slice none 0 0], .int .i64 (-1)]) (by simp [results, Try.results27, go_sem, r0, r1]) rfl (by rw [HT.out]; exact gives_dg_nil b8)
    · rw [hbx] at q2; cases q2

theorem dgFix_impl (d : Dg) (nn vr xx : Int) (A : Option Addr) (n c : Nat) (w : World) (h1 : Mem.rd w w.heap.size [.slice A n c] d.forks) :
    Calls Try.prog 27 #[.agg #[.int .i64 d.vars, .slice A n c], .int .i64 nn, .int .i64 vr, .int .i64 xx] w (GivesDgN w (dgFixB d nn vr xx).1 (dgFixB d nn vr xx).2) := by
  cases q : bitB xx
  · exact dgFixN_impl d nn vr xx q A n c w h1
  · have := bitB_yes q
    rcases (show xx = 0 ∨ xx = 1 by omega) with rfl | rfl
    · rw [dgFix0_eq]; exact dgFix0_impl d nn vr A n c w h1
    · rw [dgFix1_eq]; exact dgFix1_impl d nn vr A n c w h1
noncomputable def dgFix1 (d : Dg) (nn vr xx : Int) : Dg := (dgFixB d nn vr xx).1
noncomputable def dgFix2 (d : Dg) (nn vr xx : Int) : Int := (dgFixB d nn vr xx).2
theorem dgFix_specR (d : Dg) (nn vr xx : Int) (A : Option Addr) (n c : Nat) (w : World) (h1 : Mem.rd w w.heap.size [.slice A n c] d.forks) :
    Calls Try.prog 25 #[.agg #[.int .i64 d.vars, .slice A n c], .int .i64 nn, .int .i64 vr, .int .i64 xx] w (GivesDgN w (dgFix1 d nn vr xx) (dgFix2 d nn vr xx)) := dgFix_spec d nn vr xx A n c w h1
theorem dgFix_implR (d : Dg) (nn vr xx : Int) (A : Option Addr) (n c : Nat) (w : World) (h1 : Mem.rd w w.heap.size [.slice A n c] d.forks) :
    Calls Try.prog 27 #[.agg #[.int .i64 d.vars, .slice A n c], .int .i64 nn, .int .i64 vr, .int .i64 xx] w (GivesDgN w (dgFix1 d nn vr xx) (dgFix2 d nn vr xx)) := dgFix_impl d nn vr xx A n c w h1
theorem dgFix1_len (d : Dg) (nn vr xx : Int) : (dgFix1 d nn vr xx).forks.length ≤ 1048576 := by
  unfold dgFix1 dgFixB
  split
  · rename_i h
    simp only [Bool.and_eq_true] at h
    have gA := fit_fix h.2 h.1.1.2 h.1.2
    exact toldD_len (fun hx => (run_ok (dgB_iff.1 h.1.1.1) gA (rk_13 (dgB_iff.1 h.1.1.1) gA) hx).2.1.few)
  · simp
end Go.Proofs.Ytnpdeliaefjmlaa
