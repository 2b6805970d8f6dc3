/- A search's record, as cells; one step of it. -/
import Derived.Test.YtfgjogmgcamfdaaGreatDoorCl
namespace Go.Proofs.YtfgjogmgcamfdaaGreatDoor
open Go.RowKit

/-- The cells of a table of sets. -/
def tabC (T : Nat → Nat → Bool) : List Value := (List.range 2800).map fun i => .int .u64 (wd (T (i / 7)) (i % 7))
theorem tabC_len (T : Nat → Nat → Bool) : (tabC T).length = 2800 := by simp [tabC]
theorem tabC_at (T : Nat → Nat → Bool) {i : Nat} (h : i < 2800) : (tabC T)[i]? = some (.int .u64 (wd (T (i / 7)) (i % 7))) := by simp [tabC, h]
/-- The table, but another set at n. -/
def updT (T : Nat → Nat → Bool) (n : Nat) (P : Nat → Bool) : Nat → Nat → Bool := fun m => if m = n then P else T m
theorem tabC_zero : tabC (fun _ _ => false) = List.replicate 2800 (.int .u64 0) := by
  apply List.ext_getElem?
  intro j
  by_cases hj : j < 2800
  · rw [tabC_at _ hj, wd_none, List.getElem?_replicate, if_pos hj]; rfl
  · rw [List.getElem?_eq_none (by rw [tabC_len]; omega), List.getElem?_eq_none (by rw [List.length_replicate]; omega)]
theorem zero_tab : (Tryz.zeroCells133).toList = tabC (fun _ _ => false) := by
  rw [tabC_zero]
  kernel_rfl
theorem tabC_set (T : Nat → Nat → Bool) (P : Nat → Bool) {n : Nat} (h : n < 400) :
    ((((((((tabC T).set (n * 7) (.int .u64 (wd P 0))).set (n * 7 + 1) (.int .u64 (wd P 1))).set (n * 7 + 2) (.int .u64 (wd P 2))).set (n * 7 + 3) (.int .u64 (wd P 3))).set (n * 7 + 4) (.int .u64 (wd P 4))).set (n * 7 + 5) (.int .u64 (wd P 5))).set (n * 7 + 6) (.int .u64 (wd P 6))) = tabC (updT T n P) := by
  apply List.ext_getElem?
  intro j
  simp only [List.getElem?_set, List.length_set, tabC_len]
  by_cases hj : j < 2800
  · rw [tabC_at _ hj, tabC_at _ hj]
    by_cases e : j / 7 = n
    · have c : j = n * 7 ∨ j = n * 7 + 1 ∨ j = n * 7 + 2 ∨ j = n * 7 + 3 ∨ j = n * 7 + 4 ∨ j = n * 7 + 5 ∨ j = n * 7 + 6 := by omega
      have u : updT T n P (j / 7) = P := by unfold updT; rw [if_pos e]
      rw [u]
      rcases c with c | c | c | c | c | c | c
      · rw [show j % 7 = 0 by omega]
        rw [if_neg (by omega), if_neg (by omega), if_neg (by omega), if_neg (by omega), if_neg (by omega), if_neg (by omega), if_pos c.symm, if_pos (by omega)]
      · rw [show j % 7 = 1 by omega]
        rw [if_neg (by omega), if_neg (by omega), if_neg (by omega), if_neg (by omega), if_neg (by omega), if_pos c.symm, if_pos (by omega)]
      · rw [show j % 7 = 2 by omega]
        rw [if_neg (by omega), if_neg (by omega), if_neg (by omega), if_neg (by omega), if_pos c.symm, if_pos (by omega)]
      · rw [show j % 7 = 3 by omega]
        rw [if_neg (by omega), if_neg (by omega), if_neg (by omega), if_pos c.symm, if_pos (by omega)]
      · rw [show j % 7 = 4 by omega]
        rw [if_neg (by omega), if_neg (by omega), if_pos c.symm, if_pos (by omega)]
      · rw [show j % 7 = 5 by omega]
        rw [if_neg (by omega), if_pos c.symm, if_pos (by omega)]
      · rw [show j % 7 = 6 by omega]
        rw [if_pos c.symm, if_pos (by omega)]
    · have u : updT T n P (j / 7) = T (j / 7) := by unfold updT; rw [if_neg e]
      rw [u]
      rw [if_neg (by omega), if_neg (by omega), if_neg (by omega), if_neg (by omega), if_neg (by omega), if_neg (by omega), if_neg (by omega)]
  · rw [List.getElem?_eq_none (by rw [tabC_len]; omega), List.getElem?_eq_none (by rw [tabC_len]; omega)]
    rw [if_neg (by omega), if_neg (by omega), if_neg (by omega), if_neg (by omega), if_neg (by omega), if_neg (by omega), if_neg (by omega)]
theorem tab_set {W : World} {g : Nat} {t : TypeId} {T : Nat → Nat → Bool} {P : Nat → Bool} {n : Nat} (k : Blk W g t (tabC T)) (h : n < 400) :
    Blk (((((((W.setCell ⟨g, n * 7, none⟩ (.int .u64 (wd P 0))).setCell ⟨g, n * 7 + 1, none⟩ (.int .u64 (wd P 1))).setCell ⟨g, n * 7 + 2, none⟩ (.int .u64 (wd P 2))).setCell ⟨g, n * 7 + 3, none⟩ (.int .u64 (wd P 3))).setCell ⟨g, n * 7 + 4, none⟩ (.int .u64 (wd P 4))).setCell ⟨g, n * 7 + 5, none⟩ (.int .u64 (wd P 5))).setCell ⟨g, n * 7 + 6, none⟩ (.int .u64 (wd P 6))) g t (tabC (updT T n P)) := by
  rw [← tabC_set T P h]
  exact ((((((k.set _ _).set _ _).set _ _).set _ _).set _ _).set _ _).set _ _
theorem tab_cells {W : World} {g : Nat} {t : TypeId} {T : Nat → Nat → Bool} {n : Nat} (k : Blk W g t (tabC T)) (h : n < 400) :
    W.cell? ⟨g, n * 7, none⟩ = some (.int .u64 (wd (T n) 0)) ∧ W.cell? ⟨g, n * 7 + 1, none⟩ = some (.int .u64 (wd (T n) 1)) ∧ W.cell? ⟨g, n * 7 + 2, none⟩ = some (.int .u64 (wd (T n) 2)) ∧ W.cell? ⟨g, n * 7 + 3, none⟩ = some (.int .u64 (wd (T n) 3)) ∧
    W.cell? ⟨g, n * 7 + 4, none⟩ = some (.int .u64 (wd (T n) 4)) ∧ W.cell? ⟨g, n * 7 + 5, none⟩ = some (.int .u64 (wd (T n) 5)) ∧ W.cell? ⟨g, n * 7 + 6, none⟩ = some (.int .u64 (wd (T n) 6)) := by
  have q : ∀ i, i < 7 → W.cell? ⟨g, n * 7 + i, none⟩ = some (.int .u64 (wd (T n) i)) := fun i hi => by
    rw [k.cell, tabC_at _ (by omega), show (n * 7 + i) / 7 = n by omega, show (n * 7 + i) % 7 = i by omega]
  exact ⟨q 0 (by omega), q 1 (by omega), q 2 (by omega), q 3 (by omega), q 4 (by omega), q 5 (by omega), q 6 (by omega)⟩
theorem tab_frozen {W : World} {g : Nat} {t : TypeId} {T : Nat → Nat → Bool} (k : Blk W g t (tabC T)) (n : Nat) :
    W.frozen? ⟨g, n * 7, none⟩ = false ∧ W.frozen? ⟨g, n * 7 + 1, none⟩ = false ∧ W.frozen? ⟨g, n * 7 + 2, none⟩ = false ∧ W.frozen? ⟨g, n * 7 + 3, none⟩ = false ∧ W.frozen? ⟨g, n * 7 + 4, none⟩ = false ∧ W.frozen? ⟨g, n * 7 + 5, none⟩ = false ∧ W.frozen? ⟨g, n * 7 + 6, none⟩ = false :=
  ⟨k.frozen _, k.frozen _, k.frozen _, k.frozen _, k.frozen _, k.frozen _, k.frozen _⟩
theorem tab_below {B : Nat} {w W : World} {g n : Nat} {P : Nat → Bool} (k : Below B w W) (hg : B ≤ g) : Below B w (((((((W.setCell ⟨g, n * 7, none⟩ (.int .u64 (wd P 0))).setCell ⟨g, n * 7 + 1, none⟩ (.int .u64 (wd P 1))).setCell ⟨g, n * 7 + 2, none⟩ (.int .u64 (wd P 2))).setCell ⟨g, n * 7 + 3, none⟩ (.int .u64 (wd P 3))).setCell ⟨g, n * 7 + 4, none⟩ (.int .u64 (wd P 4))).setCell ⟨g, n * 7 + 5, none⟩ (.int .u64 (wd P 5))).setCell ⟨g, n * 7 + 6, none⟩ (.int .u64 (wd P 6))) :=
  ((((((k.setCell hg _).setCell hg _).setCell hg _).setCell hg _).setCell hg _).setCell hg _).setCell hg _
theorem seven_far' {w : World} {g o : Nat} {i0 i1 i2 i3 i4 i5 i6 : Nat} {a' b' c' d' e' f' h' : Value} (k : o ≠ g) :
    (((((((w.setCell ⟨g, i0, none⟩ a').setCell ⟨g, i1, none⟩ b').setCell ⟨g, i2, none⟩ c').setCell ⟨g, i3, none⟩ d').setCell ⟨g, i4, none⟩ e').setCell ⟨g, i5, none⟩ f').setCell ⟨g, i6, none⟩ h').heap[o]? = w.heap[o]? := by
  rw [setCell_heap _ _ _ k, setCell_heap _ _ _ k, setCell_heap _ _ _ k, setCell_heap _ _ _ k, setCell_heap _ _ _ k, setCell_heap _ _ _ k, setCell_heap _ _ _ k]
/-- A table of its own is given. -/
def GivesTab (w : World) (T : Nat → Nat → Bool) (e : Ending) (w' : World) : Prop :=
  ∃ g, e = .returned (.pointer (some ⟨g, 0, none⟩)) ∧ Blk w' g 133 (tabC T) ∧ w.heap.size ≤ g ∧ Below w.heap.size w w'
end Go.Proofs.YtfgjogmgcamfdaaGreatDoor
namespace Go.Proofs.YtfgjogmgcamfdaaGreatDoor
open Go.RowKit

/-- The sets behind the states below k. -/
def stepT (s : Sy) (k : Nat) : Nat → Nat → Bool := fun n => if n < k then nxP s (stL s.vars n) s.rules.length else fun _ => false
theorem stepT_zero (s : Sy) : stepT s 0 = fun _ _ => false := by funext n; unfold stepT; rw [if_neg (by omega)]
theorem stepT_succ (s : Sy) (k : Nat) : updT (stepT s k) k (nxP s (stL s.vars k) s.rules.length) = stepT s (k + 1) := by
  funext n
  unfold updT stepT
  by_cases e : n = k
  · rw [if_pos e, if_pos (by omega), e]
  · rw [if_neg e]
    by_cases q : n < k
    · rw [if_pos q, if_pos (by omega)]
    · rw [if_neg q, if_neg (by omega)]

set_option maxRecDepth 100000 in
set_option maxHeartbeats 4000000 in
theorem steps_any (s : Sy) (z : Nat) (A1 : Option Addr) (n1 c1 : Nat) (A2 : Option Addr) (n2 c2 : Nat) (w : World) (h1 : Mem.rd w w.heap.size [.slice A1 n1 c1] s.vars) (h2 : Mem.rd w w.heap.size [.slice A2 n2 c2] s.rules)
    (ok : SysOk s) (hz : (z : Int) = sizeB s) (hz4 : z ≤ 400) : Calls Tryz.prog 64 #[.agg #[.slice A1 n1 c1, .slice A2 n2 c2]] w (GivesTab w (stepT s z)) := by
  have SC := Lib.hid (fun W (B : Below w.heap.size w W) => size_any s A1 n1 c1 A2 n2 c2 W (Mem.rd_on h1 B) (by have := rd_len h1; have := ok.hi; omega) (allTo_true.2 fun k hk => ok.vars k (by have := rd_len h1; omega)))
  rw [← hz] at SC
  have NC := Lib.hid (fun (k : Nat) (hk : k < z) W (B : Below w.heap.size w W) => next_any s k A1 n1 c1 A2 n2 c2 W (Mem.rd_on h1 B) (Mem.rd_on h2 B) ok (by omega))
  have HU := Lib.hid (fun k => stepT_succ s k)
  have W0 : Hid (Blk ((w.alloc (.cells #[.slice A1 n1 c1, .slice A2 n2 c2] 32)).alloc (.cells Tryz.zeroCells133 133)) (w.heap.size + 1) 133 (tabC (stepT s 0)) ∧
      Below w.heap.size w ((w.alloc (.cells #[.slice A1 n1 c1, .slice A2 n2 c2] 32)).alloc (.cells Tryz.zeroCells133 133)) ∧
      Blk ((w.alloc (.cells #[.slice A1 n1 c1, .slice A2 n2 c2] 32)).alloc (.cells Tryz.zeroCells133 133)) w.heap.size 32 [.slice A1 n1 c1, .slice A2 n2 c2]) := Lib.hid (by
    refine ⟨?_, (below_alloc _ _).trans ((below_alloc _ _).mono (by simp)), (Blk.new w _ _).alloc _⟩
    have := Blk.new (w.alloc (.cells #[.slice A1 n1 c1, .slice A2 n2 c2] 32)) Tryz.zeroCells133 133
    rw [World.size_alloc, zero_tab] at this
    rw [stepT_zero]
    exact this)
  clear ok hz
  go_enter Tryz.func64, Tryz.ntmps64
  go_wp2_with fail
  refine (SC.out _ W0.out.2.1).mono ?_
  rintro e w2 ⟨rfl, b2⟩
  have M2 := Lib.hid (W0.out.1.below b2 W0.out.1.lt)
  have K2 := Lib.hid (W0.out.2.2.below b2 W0.out.2.2.lt)
  have B2 := Lib.hid (W0.out.2.1.trans (b2.mono W0.out.2.1.size))
  clear W0 b2
  go_wp2
  go_loopg [4, 7] z (fun m i4 i wr => ∃ k : Nat, k + m = z ∧ i = .int .i64 k ∧ Hid (Blk wr (w.heap.size + 1) 133 (tabC (stepT s k))) ∧ Hid (Blk wr w.heap.size 32 [.slice A1 n1 c1, .slice A2 n2 c2]) ∧ Hid (Below w.heap.size w wr))
  case atStart => exact ⟨0, by omega, rfl, M2, K2, B2⟩
  case round =>
    clear M2 K2 B2
    obtain ⟨k, hk, rfl, hm, hk2, hb⟩ := hrel
    have x0 := hk2.out.cell 0
    have x1 := hk2.out.cell 1
    simp only [List.getElem?_cons_zero, List.getElem?_cons_succ] at x0 x1
    by_cases hlt : k < z
    · have NK := Lib.hid (NC.out k hlt wr hb.out)
      have NX := Lib.hid (HU.out k)
      generalize nxP s (stL s.vars k) s.rules.length = R at *
      generalize stepT s k = T at *
      unfold wsV at NK
      have k4 : (k : Int) < 400 := by omega
      have k4n : k < 400 := by omega
      go_wp2_with fail
      refine (NK.out).mono ?_
      rintro e w4 ⟨rfl, b4⟩
      have M4 := Lib.hid (hm.out.below b4 hm.out.lt)
      have K4 := Lib.hid (hk2.out.below b4 hk2.out.lt)
      have B4 := Lib.hid (hb.out.trans (b4.mono hb.out.size))
      obtain ⟨c0, c1, c2, c3, c4, c5, c6⟩ := tab_cells M4.out k4n
      obtain ⟨f0, f1, f2, f3, f4, f5, f6⟩ := tab_frozen M4.out k
      go_wp2
      go_roundg (z - (k + 1))
      case measure => omega
      case rel =>
        refine ⟨k + 1, by omega, by go_num, Lib.hid ?_, Lib.hid ((seven_far' (by omega)).trans K4.out), Lib.hid (tab_below B4.out (by omega))⟩
        rw [← NX.out]
        exact tab_set M4.out k4n
    · obtain rfl : k = z := by omega
      go_wp2
      go_ret
      exact ⟨_, rfl, hm.out, by omega, hb.out⟩
end Go.Proofs.YtfgjogmgcamfdaaGreatDoor
namespace Go.Proofs.YtfgjogmgcamfdaaGreatDoor
open Go.RowKit

/-- The cells of a search's record: steps, states ahead, queue. -/
def srcC (D H : Nat → Int) (q : Value) : List Value := (List.range 801).map fun i => if i < 400 then .int .i64 (D i) else if i < 800 then .int .i64 (H (i - 400)) else q
theorem srcC_len (D H : Nat → Int) (q : Value) : (srcC D H q).length = 801 := by simp [srcC]
theorem srcC_d (D H : Nat → Int) (q : Value) {i : Nat} (h : i < 400) : (srcC D H q)[i]? = some (.int .i64 (D i)) := by simp [srcC, h, show i < 801 by omega]
theorem srcC_h (D H : Nat → Int) (q : Value) {i : Nat} (h : i < 400) : (srcC D H q)[400 + i]? = some (.int .i64 (H i)) := by simp [srcC, show 400 + i < 801 by omega, show ¬ 400 + i < 400 by omega, show 400 + i < 800 by omega]
theorem srcC_q (D H : Nat → Int) (q : Value) : (srcC D H q)[800]? = some q := by simp [srcC]
theorem srcC_at (D H : Nat → Int) (q : Value) {i : Nat} (h : i < 801) : (srcC D H q)[i]? = some (if i < 400 then .int .i64 (D i) else if i < 800 then .int .i64 (H (i - 400)) else q) := by simp [srcC, h]
theorem srcC_none (D H : Nat → Int) (q : Value) {i : Nat} (h : ¬ i < 801) : (srcC D H q)[i]? = none := List.getElem?_eq_none (by rw [srcC_len]; omega)
theorem srcC_setD (D H : Nat → Int) (q : Value) {n : Nat} (x : Int) (h : n < 400) : (srcC D H q).set n (.int .i64 x) = srcC (upd D n x) H q := by
  apply List.ext_getElem?
  intro j
  rw [List.getElem?_set, srcC_len]
  by_cases hj : j < 801
  · rw [srcC_at _ _ _ hj, srcC_at _ _ _ hj]
    by_cases e : n = j
    · subst e
      rw [if_pos rfl, if_pos hj, if_pos h, upd_at]
    · rw [if_neg e]
      have : upd D n x j = D j := by unfold upd; rw [if_neg (fun q => e q.symm)]
      rw [this]
  · rw [srcC_none _ _ _ hj, srcC_none _ _ _ hj]
    split
    · omega
    · rfl
theorem srcC_setH (D H : Nat → Int) (q : Value) {n : Nat} (x : Int) (h : n < 400) : (srcC D H q).set (400 + n) (.int .i64 x) = srcC D (upd H n x) q := by
  apply List.ext_getElem?
  intro j
  rw [List.getElem?_set, srcC_len]
  by_cases hj : j < 801
  · rw [srcC_at _ _ _ hj, srcC_at _ _ _ hj]
    by_cases e : 400 + n = j
    · subst e
      rw [if_pos rfl, if_pos hj, if_neg (by omega), if_pos (by omega), show 400 + n - 400 = n by omega, upd_at]
    · rw [if_neg e]
      by_cases e2 : j < 400
      · rw [if_pos e2, if_pos e2]
      · have : upd H n x (j - 400) = H (j - 400) := by unfold upd; rw [if_neg (fun q => e (by omega))]
        rw [this]
  · rw [srcC_none _ _ _ hj, srcC_none _ _ _ hj]
    split
    · omega
    · rfl
theorem srcC_setQ (D H : Nat → Int) (q q' : Value) : (srcC D H q).set 800 q' = srcC D H q' := by
  apply List.ext_getElem?
  intro j
  rw [List.getElem?_set, srcC_len]
  by_cases hj : j < 801
  · rw [srcC_at _ _ _ hj, srcC_at _ _ _ hj]
    by_cases e : 800 = j
    · subst e
      rw [if_pos rfl, if_pos hj, if_neg (by omega), if_neg (by omega)]
    · rw [if_neg e]
      by_cases e2 : j < 400
      · rw [if_pos e2, if_pos e2]
      · rw [if_neg e2, if_neg e2, if_pos (by omega), if_pos (by omega)]
  · rw [srcC_none _ _ _ hj, srcC_none _ _ _ hj]
    split
    · omega
    · rfl

/-- What a search has found. -/
structure Sst where
  D : Nat → Int
  H : Nat → Int
  Q : List Int
/-- One step. -/
def stp (x : Sst) (a n : Nat) : Sst :=
  if x.D n = -1 then ⟨upd x.D n (x.D a + 1), upd x.H n a, x.Q ++ [(n : Int)]⟩
  else if x.D n = x.D a + 1 then ⟨x.D, upd x.H n (min (x.H n) a), x.Q⟩ else x
/-- A search's record in memory, at h; fp: the blocks of its queue. -/
def Sea (w : World) (h base : Nat) (x : Sst) (fp : List Nat) : Prop :=
  ∃ A c, Blk w h 97 (srcC x.D x.H (.slice A x.Q.length c)) ∧ IL w base 3 (.slice A x.Q.length c) x.Q.length x.Q fp ∧ h ∉ fp

set_option maxRecDepth 100000 in
set_option maxHeartbeats 4000000 in
theorem step_any (x : Sst) (a n h base : Nat) (fp : List Nat) (w : World) (hs : Sea w h base x fp) (ha : a < 400) (hn : n < 400) (hD : -1 ≤ x.D a ∧ x.D a ≤ 1000) (hq : x.Q.length ≤ 1000000) (hb : base ≤ w.heap.size) :
    Calls Tryz.prog 99 #[.pointer (some ⟨h, 0, none⟩), .int .i64 (a : Int), .int .i64 (n : Int)] w (fun e w' => e = .returned (.tuple #[]) ∧ ∃ fp', Sea w' h base (stp x a n) fp' ∧ Only (h :: fp) w w' ∧ ∀ b ∈ fp', b ∈ fp ∨ w.heap.size ≤ b) := by
  obtain ⟨A, c, hm, hi, hf⟩ := hs
  obtain ⟨D, H, Q⟩ := x
  simp only at hm hi hD hq
  have a4 : (a : Int) < 400 := by omega
  have n4 : (n : Int) < 400 := by omega
  have da := (hm.cell a).trans (srcC_d _ _ _ ha)
  have dn := (hm.cell n).trans (srcC_d _ _ _ hn)
  have hn' := (hm.cell (400 + n)).trans (srcC_h _ _ _ hn)
  have hq' := (hm.cell 800).trans (srcC_q _ _ _)
  have f0 := fun i => hm.frozen i
  obtain ⟨y, hy⟩ : ∃ y, y = D a + 1 := ⟨_, rfl⟩
  have wy : IntKind.i64.wrap (D a + 1) = D a + 1 := IntWalk.i64_in _ (by omega)
  have hd' : h < w.heap.size := hm.lt
  by_cases q1 : D n = -1
  · have q1' : (D n == -1) = true := by simp [q1]
    have E : Hid (stp ⟨D, H, Q⟩ a n = ⟨upd D n (D a + 1), upd H n a, Q ++ [(n : Int)]⟩) := Lib.hid (if_pos q1)
    obtain ⟨W1, hW1⟩ : ∃ W1, W1 = ((w.setCell ⟨h, n, none⟩ (.int .i64 (D a + 1))).setCell ⟨h, 400 + n, none⟩ (.int .i64 a)).drew := ⟨_, rfl⟩
    have hm1 : Hid (Blk W1 h 97 (srcC (upd D n (D a + 1)) (upd H n a) (.slice A Q.length c))) := Lib.hid (by
      rw [hW1, ← srcC_setH _ _ _ _ hn, ← srcC_setD _ _ _ _ hn]
      exact (hm.set n _).set (400 + n) _)
    have o1 : Only [h] w W1 := by
      rw [hW1]
      have := (only_set w h n (.int .i64 (D a + 1))).trans (only_set _ h (400 + n) (.int .i64 a))
      exact ⟨this.os, this.tape, this.output, this.size, this.block⟩
    have i1 := Lib.hid (hi.only o1 (fun b hb hc => hf (by simp at hc; rw [← hc]; exact hb)))
    have qc := (hm1.out.cell 800).trans (srcC_q _ _ _)
    have qf := hm1.out.frozen 800
    have s1 : w.heap.size ≤ W1.heap.size := o1.size
    have O1 := Lib.hid o1
    have HF := Lib.hid hf
    clear o1 hf hi
    go_enter Tryz.func99, Tryz.ntmps99
    go_wp2
    go_region
    rw [← hW1]
    clear hW1 da dn hn' hq' f0 hm
    go_wp2_with (first
      | (at_builtin; go_loud (refine app_il rfl _ _ rfl rfl ((i1.out).below (below_alloc _ _)) rfl (World.cell?_alloc_at _ _ _ _ rfl) (by omega) (by rw [World.size_alloc]; omega) ?_; intro v12 w12 f12 l12 on12 in12; obtain ⟨A12, c12, rfl⟩ := row_slice l12.1; have kB12 := Lib.hid (Blk.only (hm1.out.alloc _) on12 HF.out); have q12 := (kB12.out.cell 800).trans (srcC_q _ _ _); have g12 := kB12.out.frozen 800)))
    go_end0
    rw [E.out]
    have hl : (Q ++ [(n : Int)]).length = Q.length + 1 := by simp
    have o13 := only_set w12 h 800 (.slice A12 (Q.length + 1) c12)
    have sz : (W1.alloc (.cells #[.int .i64 n] 3)).heap.size = W1.heap.size + 1 := World.size_alloc _ _
    have H12 : ∀ b ∈ f12, b ∈ fp ∨ w.heap.size ≤ b := fun b hb' => by
      rcases in12 b hb' with h1 | h1
      · exact .inl h1
      · rw [sz] at h1; right; omega
    have nh : ∀ b ∈ f12, b ∉ [h] := fun b hb' hc => by
      simp at hc
      rcases H12 b hb' with h1 | h1
      · exact HF.out (hc ▸ h1)
      · omega
    refine ⟨rfl, f12, ⟨A12, c12, ?_, ?_, fun hb' => nh h hb' (by simp)⟩, ?_, H12⟩
    · show Blk _ h _ (srcC _ _ (.slice A12 (Q ++ [(n : Int)]).length c12))
      rw [hl, ← srcC_setQ _ _ (.slice A Q.length c)]
      exact kB12.out.set 800 _
    · show IL _ base _ (.slice A12 (Q ++ [(n : Int)]).length c12) (Q ++ [(n : Int)]).length _ _
      rw [hl]
      exact l12.only o13 nh
    · have oa := Only.of_below (below_alloc W1 (.cells #[.int .i64 n] 3)) (h :: fp)
      exact ((O1.out.mono (by simp)).trans oa).trans ((on12.mono (by intro k hk; simp [hk])).trans (o13.mono (by simp)))
  · have q1' : (D n == -1) = false := by simp [q1]
    by_cases q2 : D n = D a + 1
    · have q2' : (D n == D a + 1) = true := by simp [q2]
      have E : stp ⟨D, H, Q⟩ a n = ⟨D, upd H n (min (H n) a), Q⟩ := (if_neg q1).trans (if_pos q2)
      have em : (if (a : Int) < H n then (a : Int) else H n) = min (H n) a := by
        split <;> omega
      rw [E]
      rw [q2] at dn q1'
      go_enter Tryz.func99, Tryz.ntmps99
      go_wp2
      go_region
      go_wp2
      go_end0
      have o0 := only_set w h (400 + n) (.int .i64 (min (H n) a))
      have o : Only [h] w (w.setCell ⟨h, 400 + n, none⟩ (.int .i64 (min (H n) a))).drew := ⟨o0.os, o0.tape, o0.output, o0.size, o0.block⟩
      refine ⟨rfl, fp, ⟨A, c, ?_, ?_, hf⟩, ?_, fun b hb => .inl hb⟩
      · rw [← srcC_setH _ _ _ _ hn]
        exact hm.set (400 + n) _
      · exact hi.only o (fun b hb hc => hf (by simp at hc; rw [← hc]; exact hb))
      · exact o.mono (by intro k hk; simp at hk; simp [hk])
    · have q2' : (D n == D a + 1) = false := by simp [q2]
      have E : stp ⟨D, H, Q⟩ a n = ⟨D, H, Q⟩ := (if_neg q1).trans (if_neg q2)
      rw [E]
      go_enter Tryz.func99, Tryz.ntmps99
      go_wp2
      go_end0
      exact ⟨rfl, fp, ⟨A, c, hm, hi, hf⟩, Only.refl _ _, fun b hb => .inl hb⟩
end Go.Proofs.YtfgjogmgcamfdaaGreatDoor
