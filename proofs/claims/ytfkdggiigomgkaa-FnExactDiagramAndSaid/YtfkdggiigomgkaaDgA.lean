/- Diagrams: AddFork, in the model and in the program. -/
import Derived.Test.YtfkdggiigomgkaaDgL
import Derived.Test.YtfkdggiigomgkaaDgK
namespace Go.Proofs.Ytfkdggiigomgkaa
open Go.RowKit

/-- The call gives a diagram of its own and a place. -/
def GivesDgN (w : World) (s : Dg) (x : Int) (e : Ending) (w' : World) : Prop :=
  ∃ A1 n1 c1 f1, e = .returned (.tuple #[.agg #[.int .i64 s.vars, .slice A1 n1 c1], .int .i64 x]) ∧ Mem.own w' f1 [.slice A1 n1 c1] s.forks ∧ f1.Nodup ∧ (∀ b ∈ f1, w.heap.size ≤ b) ∧ Below w.heap.size w w'
theorem gives_dg_nil {w w' : World} (b : Below w.heap.size w w') : GivesDgN w ⟨0, []⟩ (-1) (.returned (.tuple #[.agg #[.int .i64 0, .slice none 0 0], .int .i64 (-1)])) w' :=
  ⟨none, 0, 0, [], rfl, ⟨none, 0, 0, rfl, Nat.zero_le _, rfl, .inl ⟨rfl, rfl⟩⟩, List.nodup_nil, by simp, b⟩
def toldD (r : Dg × Int) : Dg × Int := if r.2 < 0 then (⟨0, []⟩, -1) else r
theorem toldD_len {r : Dg × Int} (h : 0 ≤ r.2 → r.1.forks.length ≤ 2000) : (toldD r).1.forks.length ≤ 1048576 := by
  unfold toldD
  split
  · simp
  · exact Nat.le_trans (h (by omega)) (by omega)
theorem l8Told_no (m : Int) (A : Option Addr) (n c : Nat) (x : Int) (w : World) (hx : x < 0) :
    Calls Try.prog 50 #[.agg #[.int .i64 m, .slice A n c], .int .i64 x] w (fun e w' => e = .returned (.tuple #[.agg #[.int .i64 0, .slice none 0 0], .int .i64 (-1)]) ∧ Below w.heap.size w w') := by
  go_enter Try.func50, Try.ntmps50
  go_wp2
  exact bodyPost_ret (v := .tuple #[.agg #[.int .i64 0, .slice none 0 0], .int .i64 (-1)]) (by simp [results, Try.results50, go_sem]) rfl ⟨rfl, ((Below.refl _ w).alloc (Nat.le_refl _) _).alloc (by simp) _⟩
theorem l8Told_yes (m : Int) (A : Option Addr) (n c : Nat) (x : Int) (w : World) (hx : ¬ x < 0) :
    Calls Try.prog 50 #[.agg #[.int .i64 m, .slice A n c], .int .i64 x] w (fun e w' => e = .returned (.tuple #[.agg #[.int .i64 m, .slice A n c], .int .i64 x]) ∧ Below w.heap.size w w') := by
  go_enter Try.func50, Try.ntmps50
  go_wp2
  exact bodyPost_ret (v := .tuple #[.agg #[.int .i64 m, .slice A n c], .int .i64 x]) (by simp [results, Try.results50, go_sem]) rfl ⟨rfl, ((Below.refl _ w).alloc (Nat.le_refl _) _).alloc (by simp) _⟩
theorem toldP_no (d : Dg) (x : Int) (base g m : Nat) (w : World) (hM : MkD w base g d true m) :
    Calls Try.prog 53 #[.pointer (some ⟨g, 0, none⟩), .int .i64 x] w (fun e w' => e = .returned (.tuple #[.agg #[.int .i64 0, .slice none 0 0], .int .i64 (-1)]) ∧ Below w.heap.size w w') := by
  obtain ⟨A, cc, bp, cp, Dp, br, cr, Dr, kg, _⟩ := hM.mem
  have lg := kg.lt
  have z4 := kg.cell 4
  simp only [List.getElem?_cons_zero, List.getElem?_cons_succ] at z4
  clear kg
  go_enter Try.func53, Try.ntmps53
  go_wp2
  exact bodyPost_ret (v := .tuple #[.agg #[.int .i64 0, .slice none 0 0], .int .i64 (-1)]) (by simp [results, Try.results53, go_sem]) rfl ⟨rfl, below_alloc _ _⟩
theorem toldP_yes (d : Dg) (x : Int) (base g m : Nat) (w : World) (hM : MkD w base g d false m) :
    Calls Try.prog 53 #[.pointer (some ⟨g, 0, none⟩), .int .i64 x] w (fun e w' => ∃ A c, e = .returned (.tuple #[.agg #[.int .i64 d.vars, .slice A d.forks.length c], .int .i64 x]) ∧ w'.ownsRow base 52 3 (.slice A d.forks.length c) d.forks.length (fl d.forks) ∧ Below w.heap.size w w') := by
  obtain ⟨A, cc, bp, cp, Dp, br, cr, Dr, kg, ho, _⟩ := hM.mem
  have lg := kg.lt
  have z0 := kg.cell 0
  have z1 := kg.cell 1
  have z4 := kg.cell 4
  simp only [List.getElem?_cons_zero, List.getElem?_cons_succ] at z0 z1 z4
  obtain ⟨v, fs⟩ := d
  dsimp only at *
  have HO := Lib.hid ho
  clear kg ho hM
  go_enter Try.func53, Try.ntmps53
  go_wp2
  exact bodyPost_ret (v := .tuple #[.agg #[.int .i64 v, .slice A fs.length cc], .int .i64 x]) (by simp [results, Try.results53, go_sem]) rfl ⟨A, cc, rfl, HO.out.alloc _, below_alloc _ _⟩

noncomputable def addForkB (d : Dg) (vr lo hi : Int) : Dg × Int := if (dgB d && fitX d ⟨vr, lo, hi⟩ (d.forks.length + 1)) = true then toldD (adF d ⟨vr, lo, hi⟩) else (⟨0, []⟩, -1)
set_option maxRecDepth 100000 in
set_option maxHeartbeats 4000000 in
theorem addFork_spec (d : Dg) (vr lo hi : Int) (A : Option Addr) (n c : Nat) (w : World) (h1 : Mem.rd w w.heap.size [.slice A n c] d.forks) :
    Calls Try.prog 18 #[.agg #[.int .i64 d.vars, .slice A n c], .int .i64 vr, .int .i64 lo, .int .i64 hi] w (GivesDgN w (addForkB d vr lo hi).1 (addForkB d vr lo hi).2) := by
  obtain rfl : d.forks.length = n := rd_len h1
  have CK := Lib.hid (fun W (B : Below w.heap.size w W) => dgValid_spec d A d.forks.length c W (Mem.rd_on h1 B))
  have BX := Lib.hid (two_boxes w #[.int .i64 d.vars, .slice A d.forks.length c] #[.int .i64 0, .slice none 0 0] 29 29)
  have B0 : Below w.heap.size w ((w.alloc (.cells #[.int .i64 d.vars, .slice A d.forks.length c] 29)).alloc (.cells #[.int .i64 0, .slice none 0 0] 29)) := (below_alloc w _).alloc (by simp) _
  cases k1 : dgB d
  · have hE : addForkB d vr lo hi = (⟨0, []⟩, -1) := if_neg (by rw [k1]; simp)
    rw [hE]
    rw [k1] at CK
    obtain ⟨v, fs⟩ := d
    dsimp only at *
    clear hE k1 h1
    go_enter Try.func18, Try.ntmps18
    go_wp2_with fail
    refine (CK.out _ B0).mono ?_
    rintro e w1 ⟨rfl, b1⟩
    obtain ⟨B1, kb1, kr1⟩ := BX.out _ b1
    have x0 := kb1.cell 0
    have x1 := kb1.cell 1
    have f0 := kr1.frozen 0
    have f1 := kr1.frozen 1
    have y0 := kr1.cell 0
    have y1 := kr1.cell 1
    simp only [List.getElem?_cons_zero, List.getElem?_cons_succ] at x0 x1 y0 y1
    go_wp2
    have K2 := (kr1.set 0 (.int .i64 0)).set 1 (.slice none 0 0)
    have b8 := (B1.setCell (p := ⟨w.heap.size + 1, 0, none⟩) (Nat.le_succ _) (.int .i64 0)).setCell (p := ⟨w.heap.size + 1, 1, none⟩) (Nat.le_succ _) (.slice none 0 0)
    generalize (w1.setCell ⟨w.heap.size + 1, 0, none⟩ (.int .i64 0)).setCell ⟨w.heap.size + 1, 1, none⟩ (.slice none 0 0) = w8 at K2 b8 ⊢
    have r0 := K2.cell 0
    have r1 := K2.cell 1
    simp only [List.set_cons_zero, List.set_cons_succ, List.getElem?_cons_zero, List.getElem?_cons_succ] at r0 r1
    exact bodyPost_ret (v := .tuple #[.agg #[.int .i64 0, .slice none 0 0], .int .i64 (-1)]) (by simp [results, Try.results18, go_sem, r0, r1]) rfl (gives_dg_nil b8)
  · have ok := dgB_iff.1 k1
    have few := ok.few
    have hv0 := ok.lo
    have hv1 := ok.hi
    rw [k1] at CK
    have L1 := Lib.hid (fun W (B : Below w.heap.size w W) => l8Fork_any d A d.forks.length c ⟨vr, lo, hi⟩ (d.forks.length + 1) W (Mem.rd_on h1 B) (by omega) (Int.le_refl _) hv0 hv1)
    cases q1 : fitX d ⟨vr, lo, hi⟩ (d.forks.length + 1)
    · have hE : addForkB d vr lo hi = (⟨0, []⟩, -1) := if_neg (by rw [k1, q1]; simp)
      rw [hE]
      rw [q1] at L1
      obtain ⟨v, fs⟩ := d
      dsimp only at *
      clear hE k1 h1 ok q1
      go_enter Try.func18, Try.ntmps18
      go_wp2_with fail
      refine (CK.out _ B0).mono ?_
      rintro e w1 ⟨rfl, b1⟩
      obtain ⟨B1, kb1, kr1⟩ := BX.out _ b1
      have x0 := kb1.cell 0
      have x1 := kb1.cell 1
      have f0 := kr1.frozen 0
      have f1 := kr1.frozen 1
      have y0 := kr1.cell 0
      have y1 := kr1.cell 1
      simp only [List.getElem?_cons_zero, List.getElem?_cons_succ] at x0 x1 y0 y1
      go_wp2_with fail
      refine (L1.out _ B1).mono ?_
      rintro e w2 ⟨rfl, c2⟩
      have b2 := b1.trans (c2.mono b1.size)
      obtain ⟨B2, kb2, kr2⟩ := BX.out _ b2
      have x0 := kb2.cell 0
      have x1 := kb2.cell 1
      have f0 := kr2.frozen 0
      have f1 := kr2.frozen 1
      have y0 := kr2.cell 0
      have y1 := kr2.cell 1
      simp only [List.getElem?_cons_zero, List.getElem?_cons_succ] at x0 x1 y0 y1
      go_wp2
      have K2 := (kr2.set 0 (.int .i64 0)).set 1 (.slice none 0 0)
      have b8 := (B2.setCell (p := ⟨w.heap.size + 1, 0, none⟩) (Nat.le_succ _) (.int .i64 0)).setCell (p := ⟨w.heap.size + 1, 1, none⟩) (Nat.le_succ _) (.slice none 0 0)
      generalize (w2.setCell ⟨w.heap.size + 1, 0, none⟩ (.int .i64 0)).setCell ⟨w.heap.size + 1, 1, none⟩ (.slice none 0 0) = w8 at K2 b8 ⊢
      have r0 := K2.cell 0
      have r1 := K2.cell 1
      simp only [List.set_cons_zero, List.set_cons_succ, List.getElem?_cons_zero, List.getElem?_cons_succ] at r0 r1
      exact bodyPost_ret (v := .tuple #[.agg #[.int .i64 0, .slice none 0 0], .int .i64 (-1)]) (by simp [results, Try.results18, go_sem, r0, r1]) rfl (gives_dg_nil b8)
    · have hE : addForkB d vr lo hi = toldD (adF d ⟨vr, lo, hi⟩) := if_pos (by rw [k1, q1]; rfl)
      rw [hE]
      rw [q1] at L1
      have CP := Lib.hid (fun W (B : Below w.heap.size w W) => l8Copy_any d A d.forks.length c W (Mem.rd_on h1 B) (by omega))
      have hfit := fitX_iff.1 q1
      have CO := Lib.hid (fun A2 c2 base W ho hb => l8Add_any d A2 c2 ⟨vr, lo, hi⟩ base W ho hb few hfit.l0 hfit.h0)
      have hfew : 0 ≤ (adF d ⟨vr, lo, hi⟩).2 → (adF d ⟨vr, lo, hi⟩).1.forks.length ≤ 2000 := fun h => (adF_ok ok hfit h).2.1.few
      generalize adF d ⟨vr, lo, hi⟩ = R at *
      have HW := Lib.hid hfew
      clear hfew
      obtain ⟨v, fs⟩ := d
      obtain ⟨⟨rm, rg⟩, re⟩ := R
      dsimp only at *
      clear hE k1 h1 ok q1
      go_enter Try.func18, Try.ntmps18
      go_wp2_with fail
      refine (CK.out _ B0).mono ?_
      rintro e w1 ⟨rfl, b1⟩
      obtain ⟨B1, kb1, kr1⟩ := BX.out _ b1
      have x0 := kb1.cell 0
      have x1 := kb1.cell 1
      have f0 := kr1.frozen 0
      have f1 := kr1.frozen 1
      have y0 := kr1.cell 0
      have y1 := kr1.cell 1
      simp only [List.getElem?_cons_zero, List.getElem?_cons_succ] at x0 x1 y0 y1
      go_wp2_with fail
      refine (L1.out _ B1).mono ?_
      rintro e w2 ⟨rfl, c2⟩
      have b2 := b1.trans (c2.mono b1.size)
      obtain ⟨B2, kb2, kr2⟩ := BX.out _ b2
      have x0 := kb2.cell 0
      have x1 := kb2.cell 1
      have f0 := kr2.frozen 0
      have f1 := kr2.frozen 1
      have y0 := kr2.cell 0
      have y1 := kr2.cell 1
      simp only [List.getElem?_cons_zero, List.getElem?_cons_succ] at x0 x1 y0 y1
      go_wp2_with fail
      refine (CP.out _ B2).mono ?_
      rintro e w6 ⟨A6, c6, rfl, ho6, c6b⟩
      have b6 := b2.trans (c6b.mono b2.size)
      go_wp2_with fail
      refine (CO.out A6 c6 w2.heap.size w6 ho6 c6b.size).mono ?_
      rintro e w7 ⟨on7, _, hc7⟩
      have d7 : Below w2.heap.size w6 w7 := on7.below c6b.size fun x hx => (ho6.lt x (mem_bl.1 hx)).1
      have b7 := b6.trans (d7.mono b2.size)
      obtain ⟨B7, kb7, kr7⟩ := BX.out _ b7
      have x0 := kb7.cell 0
      have x1 := kb7.cell 1
      have f0 := kr7.frozen 0
      have f1 := kr7.frozen 1
      have y0 := kr7.cell 0
      have y1 := kr7.cell 1
      simp only [List.getElem?_cons_zero, List.getElem?_cons_succ] at x0 x1 y0 y1
      rcases hc7 with ⟨hre, m7, A7, n7, c7, rfl⟩ | ⟨hre, A7, c7, rfl, ho7, _⟩
      · dsimp only at hre
        have hT : toldD (⟨rm, rg⟩, re) = (⟨0, []⟩, -1) := if_pos hre
        have HT := Lib.hid hT
        clear hT
        go_wp2_with fail
        refine (l8Told_no m7 A7 n7 c7 (-1) _ (by decide)).mono ?_
        rintro e w9 ⟨rfl, d9⟩
        have b9 := b7.trans ((below_call d9).mono b7.size)
        obtain ⟨B9, kb9, kr9⟩ := BX.out _ b9
        have x0 := kb9.cell 0
        have x1 := kb9.cell 1
        have f0 := kr9.frozen 0
        have f1 := kr9.frozen 1
        have y0 := kr9.cell 0
        have y1 := kr9.cell 1
        simp only [List.getElem?_cons_zero, List.getElem?_cons_succ] at x0 x1 y0 y1
        go_wp2
        have K2 := (kr9.set 0 (.int .i64 0)).set 1 (.slice none 0 0)
        have b8 := (B9.setCell (p := ⟨w.heap.size + 1, 0, none⟩) (Nat.le_succ _) (.int .i64 0)).setCell (p := ⟨w.heap.size + 1, 1, none⟩) (Nat.le_succ _) (.slice none 0 0)
        generalize (w9.setCell ⟨w.heap.size + 1, 0, none⟩ (.int .i64 0)).setCell ⟨w.heap.size + 1, 1, none⟩ (.slice none 0 0) = w8 at K2 b8 ⊢
        have r0 := K2.cell 0
        have r1 := K2.cell 1
        simp only [List.set_cons_zero, List.set_cons_succ, List.getElem?_cons_zero, List.getElem?_cons_succ] at r0 r1
        exact bodyPost_ret (v := .tuple #[.agg #[.int .i64 0, .slice none 0 0], .int .i64 (-1)]) (by simp [results, Try.results18, go_sem, r0, r1]) rfl (by rw [HT.out]; exact gives_dg_nil b8)
      · dsimp only at hre ho7
        have hT : toldD (⟨rm, rg⟩, re) = (⟨rm, rg⟩, re) := if_neg (by show ¬ re < 0; omega)
        have HT := Lib.hid hT
        clear hT
        have O7 := Lib.hid ho7
        clear ho7
        go_wp2_with fail
        refine (l8Told_yes rm A7 rg.length c7 re _ (by omega)).mono ?_
        rintro e w9 ⟨rfl, d9⟩
        have d9 := below_call d9
        have b9 := b7.trans (d9.mono b7.size)
        obtain ⟨B9, kb9, kr9⟩ := BX.out _ b9
        have x0 := kb9.cell 0
        have x1 := kb9.cell 1
        have f0 := kr9.frozen 0
        have f1 := kr9.frozen 1
        have y0 := kr9.cell 0
        have y1 := kr9.cell 1
        simp only [List.getElem?_cons_zero, List.getElem?_cons_succ] at x0 x1 y0 y1
        have hz9 : w.heap.size + 1 < w2.heap.size := kr2.lt
        have o9 := own_below O7.out d9
        have n9 : (Value.slice A7 (rg).length c7).ownBlock ≠ some (w.heap.size + 1) := fun e => by have := (o9.lt _ e).1; (try simp only [World.size_alloc] at this); omega
        go_wp2
        have K2 := (kr9.set 0 (.int .i64 rm)).set 1 (.slice A7 (rg).length c7)
        have o8 := own_away (own_away o9 (p := ⟨w.heap.size + 1, 0, none⟩) (.int .i64 rm) n9) (p := ⟨w.heap.size + 1, 1, none⟩) (.slice A7 (rg).length c7) n9
        have b8 := (B9.setCell (p := ⟨w.heap.size + 1, 0, none⟩) (Nat.le_succ _) (.int .i64 rm)).setCell (p := ⟨w.heap.size + 1, 1, none⟩) (Nat.le_succ _) (.slice A7 (rg).length c7)
        generalize (w9.setCell ⟨w.heap.size + 1, 0, none⟩ (.int .i64 rm)).setCell ⟨w.heap.size + 1, 1, none⟩ (.slice A7 (rg).length c7) = w8 at K2 b8 o8 ⊢
        have r0 := K2.cell 0
        have r1 := K2.cell 1
        simp only [List.set_cons_zero, List.set_cons_succ, List.getElem?_cons_zero, List.getElem?_cons_succ] at r0 r1
        obtain ⟨fp, q1, q2, q3⟩ := own_flat (α := Fk) o8 rfl (by unfold maxLen; have := HW.out hre; omega)
        exact bodyPost_ret (v := .tuple #[.agg #[.int .i64 rm, .slice A7 (rg).length c7], .int .i64 re]) (by simp [results, Try.results18, go_sem, r0, r1]) rfl (by rw [HT.out]; exact ⟨A7, _, c7, fp, rfl, q1, q2, fun x hx => by have := q3 x hx; have := kb2.lt; omega, b8⟩)
theorem fitsX_any (d : Dg) (A : Option Addr) (c : Nat) (f : Fk) (w : World) (h : Mem.rd w w.heap.size [.slice A d.forks.length c] d.forks) (hn : d.forks.length ≤ 100000) :
    Calls Try.prog 52 #[.agg #[.int .i64 d.vars, .slice A d.forks.length c], f.u] w (GivesBool w (fitX d f (d.forks.length + 1))) := by
  have e : fitX d f (d.forks.length + 1) = fitB d f := Bool.eq_iff_iff.2 (fitX_iff.trans fitB_iff.symm)
  rw [e]; exact fits_any d A c f w h hn
set_option maxRecDepth 100000 in
set_option maxHeartbeats 4000000 in
theorem addFork_impl (d : Dg) (vr lo hi : Int) (A : Option Addr) (n c : Nat) (w : World) (h1 : Mem.rd w w.heap.size [.slice A n c] d.forks) :
    Calls Try.prog 19 #[.agg #[.int .i64 d.vars, .slice A n c], .int .i64 vr, .int .i64 lo, .int .i64 hi] w (GivesDgN w (addForkB d vr lo hi).1 (addForkB d vr lo hi).2) := by
  obtain rfl : d.forks.length = n := rd_len h1
  have MK := Lib.hid (fun W (B : Below w.heap.size w W) => makerD_any d [] A d.forks.length c none 0 0 W (Mem.rd_on h1 B) (rd_none_int W))
  have BX := Lib.hid (three_boxes w #[.int .i64 d.vars, .slice A d.forks.length c] #[.int .i64 0, .slice none 0 0] #[.int .i64 vr, .int .i64 lo, .int .i64 hi] 29 29 52)
  have B0 : Below w.heap.size w (((w.alloc (.cells #[.int .i64 d.vars, .slice A d.forks.length c] 29)).alloc (.cells #[.int .i64 0, .slice none 0 0] 29)).alloc (.cells #[.int .i64 vr, .int .i64 lo, .int .i64 hi] 52)) := ((below_alloc w _).alloc (by simp) _).alloc (by simp; omega) _
  have L1 := Lib.hid (fun W (B : Below w.heap.size w W) (hn : d.forks.length ≤ 100000) => fitsX_any d A c ⟨vr, lo, hi⟩ W (Mem.rd_on h1 B) hn)
  cases q1 : fitX d ⟨vr, lo, hi⟩ (d.forks.length + 1)
  · have HBAD : Hid (addForkB d vr lo hi = (⟨0, []⟩, -1)) := Lib.hid (if_neg (by rw [q1]; simp))
    have HNO : Hid ((dgB d && areP d []) = false → addForkB d vr lo hi = (⟨0, []⟩, -1)) := Lib.hid (fun _ => HBAD.out)
    rw [q1] at L1
    generalize addForkB d vr lo hi = R at *
    obtain ⟨v, fs⟩ := d
    dsimp only [Fk.u] at *
    clear h1 q1
    have MK0 := MK.out _ B0
    go_enter Try.func19, Try.ntmps19
    go_wp2_with fail
    refine MK0.mono ?_
    rintro e w1 (⟨hq, rfl, b1'⟩ | ⟨hq, g, rfl, hm1, b1'⟩)
    · have b1 := b1'
      have HT := Lib.hid (HNO.out hq)
      clear hq
      obtain ⟨B1, kb1, kr1, kx1⟩ := BX.out _ b1
      have x0 := kb1.cell 0
      have x1 := kb1.cell 1
      have f0 := kr1.frozen 0
      have f1 := kr1.frozen 1
      have y0 := kr1.cell 0
      have y1 := kr1.cell 1
      have v0 := kx1.cell 0
      have v1 := kx1.cell 1
      have v2 := kx1.cell 2
      simp only [List.getElem?_cons_zero, List.getElem?_cons_succ] at x0 x1 y0 y1 v0 v1 v2
      go_wp2
      have K2 := (kr1.set 0 (.int .i64 0)).set 1 (.slice none 0 0)
      have b8 := (B1.setCell (p := ⟨w.heap.size + 1, 0, none⟩) (Nat.le_succ _) (.int .i64 0)).setCell (p := ⟨w.heap.size + 1, 1, none⟩) (Nat.le_succ _) (.slice none 0 0)
      generalize (w1.setCell ⟨w.heap.size + 1, 0, none⟩ (.int .i64 0)).setCell ⟨w.heap.size + 1, 1, none⟩ (.slice none 0 0) = w8 at K2 b8 ⊢
      have r0 := K2.cell 0
      have r1 := K2.cell 1
      simp only [List.set_cons_zero, List.set_cons_succ, List.getElem?_cons_zero, List.getElem?_cons_succ] at r0 r1
      exact bodyPost_ret (v := .tuple #[.agg #[.int .i64 0, .slice none 0 0], .int .i64 (-1)]) (by simp [results, Try.results19, go_sem, r0, r1]) rfl (by rw [HT.out]; exact gives_dg_nil b8)
    · have hn0 := hm1.ok.few
      dsimp only at hn0
      have hn : fs.length ≤ 100000 := by omega
      have b1 := b1'
      obtain ⟨B1, kb1, kr1, kx1⟩ := BX.out _ b1
      have x0 := kb1.cell 0
      have x1 := kb1.cell 1
      have f0 := kr1.frozen 0
      have f1 := kr1.frozen 1
      have y0 := kr1.cell 0
      have y1 := kr1.cell 1
      have v0 := kx1.cell 0
      have v1 := kx1.cell 1
      have v2 := kx1.cell 2
      simp only [List.getElem?_cons_zero, List.getElem?_cons_succ] at x0 x1 y0 y1 v0 v1 v2
      go_wp2_with fail
      refine (L1.out _ B1 hn).mono ?_
      rintro e w2 ⟨rfl, c2⟩

      have b2 := b1.trans (c2.mono b1.size)
      obtain ⟨B2, kb2, kr2, kx2⟩ := BX.out _ b2
      have x0 := kb2.cell 0
      have x1 := kb2.cell 1
      have f0 := kr2.frozen 0
      have f1 := kr2.frozen 1
      have y0 := kr2.cell 0
      have y1 := kr2.cell 1
      have v0 := kx2.cell 0
      have v1 := kx2.cell 1
      have v2 := kx2.cell 2
      simp only [List.getElem?_cons_zero, List.getElem?_cons_succ] at x0 x1 y0 y1 v0 v1 v2
      have HT := Lib.hid HBAD.out
      clear hq
      go_wp2
      have K2 := (kr2.set 0 (.int .i64 0)).set 1 (.slice none 0 0)
      have b8 := (B2.setCell (p := ⟨w.heap.size + 1, 0, none⟩) (Nat.le_succ _) (.int .i64 0)).setCell (p := ⟨w.heap.size + 1, 1, none⟩) (Nat.le_succ _) (.slice none 0 0)
      generalize (w2.setCell ⟨w.heap.size + 1, 0, none⟩ (.int .i64 0)).setCell ⟨w.heap.size + 1, 1, none⟩ (.slice none 0 0) = w8 at K2 b8 ⊢
      have r0 := K2.cell 0
      have r1 := K2.cell 1
      simp only [List.set_cons_zero, List.set_cons_succ, List.getElem?_cons_zero, List.getElem?_cons_succ] at r0 r1
      exact bodyPost_ret (v := .tuple #[.agg #[.int .i64 0, .slice none 0 0], .int .i64 (-1)]) (by simp [results, Try.results19, go_sem, r0, r1]) rfl (by rw [HT.out]; exact gives_dg_nil b8)
  · rw [q1] at L1
    have HNO : Hid ((dgB d && areP d []) = false → addForkB d vr lo hi = (⟨0, []⟩, -1)) := Lib.hid (fun hq => if_neg (fun h => by
      simp only [Bool.and_eq_true] at h
      have hq2 : (dgB d && areP d []) = true := by simp only [areP, List.all_nil, Bool.and_true]; simp [h]
      rw [hq] at hq2; cases hq2))
    have HYES : Hid ((dgB d && areP d []) = true → addForkB d vr lo hi = toldD (adF d ⟨vr, lo, hi⟩)) := Lib.hid (fun hq => if_pos (by
      simp only [areP, List.all_nil, Bool.and_true, Bool.and_eq_true] at hq ⊢
      simp [hq, q1]))
    have CO : Hid ((dgB d && areP d []) = true → ∀ base g W, MkD W base g d false 0 → base ≤ W.heap.size → Calls Try.prog 54 #[.pointer (some ⟨g, 0, none⟩), Fk.u ⟨vr, lo, hi⟩] W (GivesAd base g d ⟨vr, lo, hi⟩ false 0 W)) := Lib.hid (fun hq base g W hM hb => by
      have hfit := fitX_iff.1 q1
      obtain ⟨s1, s2, s3⟩ := hfit.sml (by have := hM.ok.few; omega) hM.ok.hi
      exact addD_any d ⟨vr, lo, hi⟩ false 0 base g W hM hb (fun _ => hfit) (hfit.low (Int.le_refl _)) s1 s2 s3)
    generalize addForkB d vr lo hi = R at *
    obtain ⟨v, fs⟩ := d
    dsimp only [Fk.u] at *
    clear h1 q1
    have MK0 := MK.out _ B0
    go_enter Try.func19, Try.ntmps19
    go_wp2_with fail
    refine MK0.mono ?_
    rintro e w1 (⟨hq, rfl, b1'⟩ | ⟨hq, g, rfl, hm1, b1'⟩)
    · have b1 := b1'
      have HT := Lib.hid (HNO.out hq)
      clear hq
      obtain ⟨B1, kb1, kr1, kx1⟩ := BX.out _ b1
      have x0 := kb1.cell 0
      have x1 := kb1.cell 1
      have f0 := kr1.frozen 0
      have f1 := kr1.frozen 1
      have y0 := kr1.cell 0
      have y1 := kr1.cell 1
      have v0 := kx1.cell 0
      have v1 := kx1.cell 1
      have v2 := kx1.cell 2
      simp only [List.getElem?_cons_zero, List.getElem?_cons_succ] at x0 x1 y0 y1 v0 v1 v2
      go_wp2
      have K2 := (kr1.set 0 (.int .i64 0)).set 1 (.slice none 0 0)
      have b8 := (B1.setCell (p := ⟨w.heap.size + 1, 0, none⟩) (Nat.le_succ _) (.int .i64 0)).setCell (p := ⟨w.heap.size + 1, 1, none⟩) (Nat.le_succ _) (.slice none 0 0)
      generalize (w1.setCell ⟨w.heap.size + 1, 0, none⟩ (.int .i64 0)).setCell ⟨w.heap.size + 1, 1, none⟩ (.slice none 0 0) = w8 at K2 b8 ⊢
      have r0 := K2.cell 0
      have r1 := K2.cell 1
      simp only [List.set_cons_zero, List.set_cons_succ, List.getElem?_cons_zero, List.getElem?_cons_succ] at r0 r1
      exact bodyPost_ret (v := .tuple #[.agg #[.int .i64 0, .slice none 0 0], .int .i64 (-1)]) (by simp [results, Try.results19, go_sem, r0, r1]) rfl (by rw [HT.out]; exact gives_dg_nil b8)
    · have hn0 := hm1.ok.few
      dsimp only at hn0
      have hn : fs.length ≤ 100000 := by omega
      have b1 := b1'
      obtain ⟨B1, kb1, kr1, kx1⟩ := BX.out _ b1
      have x0 := kb1.cell 0
      have x1 := kb1.cell 1
      have f0 := kr1.frozen 0
      have f1 := kr1.frozen 1
      have y0 := kr1.cell 0
      have y1 := kr1.cell 1
      have v0 := kx1.cell 0
      have v1 := kx1.cell 1
      have v2 := kx1.cell 2
      simp only [List.getElem?_cons_zero, List.getElem?_cons_succ] at x0 x1 y0 y1 v0 v1 v2
      go_wp2_with fail
      refine (L1.out _ B1 hn).mono ?_
      rintro e w2 ⟨rfl, c2⟩

      have b2 := b1.trans (c2.mono b1.size)
      obtain ⟨B2, kb2, kr2, kx2⟩ := BX.out _ b2
      have x0 := kb2.cell 0
      have x1 := kb2.cell 1
      have f0 := kr2.frozen 0
      have f1 := kr2.frozen 1
      have y0 := kr2.cell 0
      have y1 := kr2.cell 1
      have v0 := kx2.cell 0
      have v1 := kx2.cell 1
      have v2 := kx2.cell 2
      simp only [List.getElem?_cons_zero, List.getElem?_cons_succ] at x0 x1 y0 y1 v0 v1 v2
      have HT0 := Lib.hid (HYES.out hq)
      have HCO := Lib.hid (CO.out hq)
      clear hq
      go_wp2_with fail
      refine (HCO.out _ g _ (mkD_below hm1 c2) (Nat.le_trans b1'.size c2.size)).mono ?_
      rintro e w7 ⟨x7, ⟨rm, rg⟩, full7, rfl, hm7, c7, P7, _⟩
      have b7 := b2.trans (c7.mono (by first | exact Nat.le_refl _ | (simp only [World.size_alloc]; omega)))
      obtain ⟨B7, kb7, kr7, kx7⟩ := BX.out _ b7
      have x0 := kb7.cell 0
      have x1 := kb7.cell 1
      have f0 := kr7.frozen 0
      have f1 := kr7.frozen 1
      have y0 := kr7.cell 0
      have y1 := kr7.cell 1
      have v0 := kx7.cell 0
      have v1 := kx7.cell 1
      have v2 := kx7.cell 2
      simp only [List.getElem?_cons_zero, List.getElem?_cons_succ] at x0 x1 y0 y1 v0 v1 v2
      cases full7
      · obtain ⟨_, hcore⟩ := P7.new rfl
        have hx7 := (isP_iff.1 P7.isP).1
        have HT := Lib.hid (HT0.out.trans ((congrArg toldD hcore).trans (if_neg (by show ¬ x7 < 0; omega))))
        have few7 := hm7.ok.few
        clear P7 hcore HT0 HCO
        dsimp only at few7
        go_wp2_with fail
        refine (toldP_yes _ x7 _ g _ _ hm7).mono ?_
        rintro e w9 ⟨A7, c7, rfl, o9, d9⟩
        dsimp only at o9
        have b9 := b7.trans (d9.mono b7.size)
        obtain ⟨B9, kb9, kr9, kx9⟩ := BX.out _ b9
        have x0 := kb9.cell 0
        have x1 := kb9.cell 1
        have f0 := kr9.frozen 0
        have f1 := kr9.frozen 1
        have y0 := kr9.cell 0
        have y1 := kr9.cell 1
        have v0 := kx9.cell 0
        have v1 := kx9.cell 1
        have v2 := kx9.cell 2
        simp only [List.getElem?_cons_zero, List.getElem?_cons_succ] at x0 x1 y0 y1 v0 v1 v2
        have n9 : (Value.slice A7 (rg).length c7).ownBlock ≠ some (w.heap.size + 1) := fun e => by have := (o9.lt _ e).1; (try simp only [World.size_alloc] at this); omega
        go_wp2
        have K2 := (kr9.set 0 (.int .i64 rm)).set 1 (.slice A7 (rg).length c7)
        have o8 := own_away (own_away o9 (p := ⟨w.heap.size + 1, 0, none⟩) (.int .i64 rm) n9) (p := ⟨w.heap.size + 1, 1, none⟩) (.slice A7 (rg).length c7) n9
        have b8 := (B9.setCell (p := ⟨w.heap.size + 1, 0, none⟩) (Nat.le_succ _) (.int .i64 rm)).setCell (p := ⟨w.heap.size + 1, 1, none⟩) (Nat.le_succ _) (.slice A7 (rg).length c7)
        generalize (w9.setCell ⟨w.heap.size + 1, 0, none⟩ (.int .i64 rm)).setCell ⟨w.heap.size + 1, 1, none⟩ (.slice A7 (rg).length c7) = w8 at K2 b8 o8 ⊢
        have r0 := K2.cell 0
        have r1 := K2.cell 1
        simp only [List.set_cons_zero, List.set_cons_succ, List.getElem?_cons_zero, List.getElem?_cons_succ] at r0 r1
        obtain ⟨fp, q1, q2, q3⟩ := own_flat (α := Fk) o8 rfl (by unfold maxLen; have := few7; omega)
        exact bodyPost_ret (v := .tuple #[.agg #[.int .i64 rm, .slice A7 (rg).length c7], .int .i64 x7]) (by simp [results, Try.results19, go_sem, r0, r1]) rfl (by rw [HT.out]; exact ⟨A7, _, c7, fp, rfl, q1, q2, fun x hx => by have := q3 x hx; have := B0.size; omega, b8⟩)
      · have HT := Lib.hid (HT0.out.trans (if_pos (by
          rcases P7.no rfl with q | q
          · cases q
          · exact q)))
        clear P7 HT0 HCO
        go_wp2_with fail
        refine (toldP_no _ x7 _ g _ _ hm7).mono ?_
        rintro e w9 ⟨rfl, d9⟩
        have b9 := b7.trans (d9.mono b7.size)
        obtain ⟨B9, kb9, kr9, kx9⟩ := BX.out _ b9
        have x0 := kb9.cell 0
        have x1 := kb9.cell 1
        have f0 := kr9.frozen 0
        have f1 := kr9.frozen 1
        have y0 := kr9.cell 0
        have y1 := kr9.cell 1
        have v0 := kx9.cell 0
        have v1 := kx9.cell 1
        have v2 := kx9.cell 2
        simp only [List.getElem?_cons_zero, List.getElem?_cons_succ] at x0 x1 y0 y1 v0 v1 v2
        go_wp2
        have K2 := (kr9.set 0 (.int .i64 0)).set 1 (.slice none 0 0)
        have b8 := (B9.setCell (p := ⟨w.heap.size + 1, 0, none⟩) (Nat.le_succ _) (.int .i64 0)).setCell (p := ⟨w.heap.size + 1, 1, none⟩) (Nat.le_succ _) (.slice none 0 0)
        generalize (w9.setCell ⟨w.heap.size + 1, 0, none⟩ (.int .i64 0)).setCell ⟨w.heap.size + 1, 1, none⟩ (.slice none 0 0) = w8 at K2 b8 ⊢
        have r0 := K2.cell 0
        have r1 := K2.cell 1
        simp only [List.set_cons_zero, List.set_cons_succ, List.getElem?_cons_zero, List.getElem?_cons_succ] at r0 r1
        exact bodyPost_ret (v := .tuple #[.agg #[.int .i64 0, .slice none 0 0], .int .i64 (-1)]) (by simp [results, Try.results19, go_sem, r0, r1]) rfl (by rw [HT.out]; exact gives_dg_nil b8)
noncomputable def addFork1 (d : Dg) (vr lo hi : Int) : Dg := (addForkB d vr lo hi).1
noncomputable def addFork2 (d : Dg) (vr lo hi : Int) : Int := (addForkB d vr lo hi).2
theorem addFork_specR (d : Dg) (vr lo hi : Int) (A : Option Addr) (n c : Nat) (w : World) (h1 : Mem.rd w w.heap.size [.slice A n c] d.forks) :
    Calls Try.prog 18 #[.agg #[.int .i64 d.vars, .slice A n c], .int .i64 vr, .int .i64 lo, .int .i64 hi] w (GivesDgN w (addFork1 d vr lo hi) (addFork2 d vr lo hi)) := addFork_spec d vr lo hi A n c w h1
theorem addFork_implR (d : Dg) (vr lo hi : Int) (A : Option Addr) (n c : Nat) (w : World) (h1 : Mem.rd w w.heap.size [.slice A n c] d.forks) :
    Calls Try.prog 19 #[.agg #[.int .i64 d.vars, .slice A n c], .int .i64 vr, .int .i64 lo, .int .i64 hi] w (GivesDgN w (addFork1 d vr lo hi) (addFork2 d vr lo hi)) := addFork_impl d vr lo hi A n c w h1
theorem addFork1_len (d : Dg) (vr lo hi : Int) : (addFork1 d vr lo hi).forks.length ≤ 1048576 := by
  unfold addFork1 addForkB
  split
  · rename_i h
    rw [Bool.and_eq_true] at h
    exact toldD_len (fun hx => (adF_ok (dgB_iff.1 h.1) (fitX_iff.1 h.2) hx).2.1.few)
  · simp

end Go.Proofs.Ytfkdggiigomgkaa
