/- impl.Eval's parts. -/
import Derived.Test.YtmlhnnkdecabpaaDoorVals
namespace Go.Proofs.YtmlhnnkdecabpaaDoor
open Go.RowKit

theorem ret_num {k : IntKind} {a b : Int} (h : a = b) : Ending.returned (.int k a) = .returned (.int k b) := by rw [h]

set_option maxHeartbeats 400000 in
theorem held_any (n : Int) (w : World) : Calls Tryd.prog 114 #[.int .i64 n] w fun e w' => e = .returned (.int .i64 (hld n)) ∧ w = w' := by
  by_cases h1 : n < -9999
  · have e : hld n = -9999 := by unfold hld; rw [if_pos h1]
    rw [e]; clear e
    go_enter Tryd.func114, Tryd.ntmps114
    go_wp2
    go_ret
    exact ⟨rfl, rfl⟩
  by_cases h2 : 9999 < n
  · have e : hld n = 9999 := by unfold hld; rw [if_neg h1, if_pos h2]
    rw [e]; clear e
    go_enter Tryd.func114, Tryd.ntmps114
    go_wp2
    go_ret
    exact ⟨rfl, rfl⟩
  · have e : hld n = n := by unfold hld; rw [if_neg h1, if_neg h2]
    rw [e]; clear e
    have h3 : -9999 ≤ n := by omega
    have h4 : n ≤ 9999 := by omega
    clear h1 h2
    go_enter Tryd.func114, Tryd.ntmps114
    go_wp2
    all_goals (go_ret; exact ⟨ret_num (by omega), rfl⟩)

theorem truth_any (b : Bool) (w : World) : Calls Tryd.prog 115 #[.bool b] w fun e w' => e = .returned (.int .i64 (tr b)) ∧ w = w' := by
  cases b <;> (go_enter Tryd.func115, Tryd.ntmps115; go_wp2; go_ret; exact ⟨rfl, rfl⟩)

/-- Whether all numbers are within MaxNumber. -/
def numsB (l : List Int) : Bool := l.all fun x => inB x (-9999) 9999
theorem nums_true {l : List Int} (h : ∀ j, j < l.length → inB (ix l j) (-9999) 9999 = true) : numsB l = true := by
  unfold numsB
  rw [List.all_eq_true]
  intro x hx
  obtain ⟨j, hj, rfl⟩ := List.mem_iff_getElem.1 hx
  have := h j hj
  rwa [ix_lt hj] at this
theorem nums_false {l : List Int} {j : Nat} (hj : j < l.length) (h : inB (ix l j) (-9999) 9999 = false) : numsB l = false := by
  unfold numsB
  rw [List.all_eq_false]
  rw [ix_lt hj] at h
  exact ⟨l[j], List.getElem_mem hj, by simp [h]⟩
theorem nums_ok {l : List Int} (h : numsB l = true) : NumsOk l := by
  intro i hi
  unfold numsB at h
  rw [List.all_eq_true] at h
  have := h l[i] (List.getElem_mem hi)
  rw [ix_lt hi]
  simp [inB] at this
  exact this

theorem below_drewN {B : Nat} {a w : World} (h : Below B a w) (n : Nat) : Below B a (w.drewN n) := ⟨h.os, h.tape, h.output, h.size, h.block⟩
theorem mul_in {x y : Int} (x1 : -9999 ≤ x) (x2 : x ≤ 9999) (y1 : -9999 ≤ y) (y2 : y ≤ 9999) : -99980001 ≤ x * y ∧ x * y ≤ 99980001 := by
  have h : (x * y).natAbs ≤ 99980001 := by
    rw [Int.natAbs_mul]
    calc x.natAbs * y.natAbs ≤ 9999 * 9999 := Nat.mul_le_mul (by omega) (by omega)
      _ = 99980001 := by decide
  omega

section
variable (A' : Option Addr) (ad : Addr) (n c n' c' p q : Nat) (tn x y : Int) (w : World)
  (hc : ∀ o, (w.alloc o).cell? (ad.add p) = some (.int .i64 x)) (hc' : ∀ o, (w.alloc o).cell? (ad.add q) = some (.int .i64 y)) (hp : p < n) (hq : q < n) (x1 : -9999 ≤ x) (x2 : x ≤ 9999) (y1 : -9999 ≤ y) (y2 : y ≤ 9999)
include hc hc' hp hq x1 x2 y1 y2
set_option maxHeartbeats 1000000 in
theorem valueOf_2 : Calls Tryd.prog 103 #[.agg #[.int .i64 2, .int .i64 tn, .int .i64 p, .int .i64 q], .slice (some ad) n c, .slice A' n' c'] w (GivesInt w (doOp 2 x y)) := by
  rw [show doOp 2 x y = hld (x + y) by simp [doOp]]
  go_enter Tryd.func103, Tryd.ntmps103
  go_wp2
  go_quiet (fail)
  go_wp2_with (first | (go_at_call 114; refine (held_any _ _).mono ?_; rintro e w' ⟨rfl, rfl⟩))
  go_ret; exact ⟨rfl, below_drewN (below_alloc _ _) _⟩
set_option maxHeartbeats 1000000 in
theorem valueOf_3 : Calls Tryd.prog 103 #[.agg #[.int .i64 3, .int .i64 tn, .int .i64 p, .int .i64 q], .slice (some ad) n c, .slice A' n' c'] w (GivesInt w (doOp 3 x y)) := by
  rw [show doOp 3 x y = hld (x - y) by simp [doOp]]
  go_enter Tryd.func103, Tryd.ntmps103
  go_wp2
  go_quiet (fail)
  go_wp2_with (first | (go_at_call 114; refine (held_any _ _).mono ?_; rintro e w' ⟨rfl, rfl⟩))
  go_ret; exact ⟨rfl, below_drewN (below_alloc _ _) _⟩
set_option maxHeartbeats 1000000 in
theorem valueOf_4 : Calls Tryd.prog 103 #[.agg #[.int .i64 4, .int .i64 tn, .int .i64 p, .int .i64 q], .slice (some ad) n c, .slice A' n' c'] w (GivesInt w (doOp 4 x y)) := by
  rw [show doOp 4 x y = hld (x * y) by simp [doOp]]
  obtain ⟨m1, m2⟩ := mul_in x1 x2 y1 y2
  go_enter Tryd.func103, Tryd.ntmps103
  go_wp2
  go_quiet (fail)
  go_wp2_with (first | (go_at_call 114; refine (held_any _ _).mono ?_; rintro e w' ⟨rfl, rfl⟩))
  go_ret; exact ⟨rfl, below_drewN (below_alloc _ _) _⟩
omit x1 x2 y1 y2 in
set_option maxHeartbeats 1000000 in
theorem valueOf_5 : Calls Tryd.prog 103 #[.agg #[.int .i64 5, .int .i64 tn, .int .i64 p, .int .i64 q], .slice (some ad) n c, .slice A' n' c'] w (GivesInt w (doOp 5 x y)) := by
  rw [show doOp 5 x y = tr (decide (x < y)) by simp [doOp]]
  go_enter Tryd.func103, Tryd.ntmps103
  go_wp2
  go_quiet (fail)
  go_wp2_with (first | (go_at_call 115; refine (truth_any _ _).mono ?_; rintro e w' ⟨rfl, rfl⟩))
  go_ret; exact ⟨rfl, below_drewN (below_alloc _ _) _⟩
omit x1 x2 y1 y2 in
set_option maxHeartbeats 1000000 in
theorem valueOf_6 : Calls Tryd.prog 103 #[.agg #[.int .i64 6, .int .i64 tn, .int .i64 p, .int .i64 q], .slice (some ad) n c, .slice A' n' c'] w (GivesInt w (doOp 6 x y)) := by
  rw [show doOp 6 x y = tr (x == y) by simp [doOp]]
  go_enter Tryd.func103, Tryd.ntmps103
  go_wp2
  go_quiet (fail)
  go_wp2_with (first | (go_at_call 115; refine (truth_any _ _).mono ?_; rintro e w' ⟨rfl, rfl⟩))
  go_ret; exact ⟨rfl, below_drewN (below_alloc _ _) _⟩
omit y1 y2 in
set_option maxHeartbeats 1000000 in
theorem valueOf_7 : Calls Tryd.prog 103 #[.agg #[.int .i64 7, .int .i64 tn, .int .i64 p, .int .i64 q], .slice (some ad) n c, .slice A' n' c'] w (GivesInt w (doOp 7 x y)) := by
  rw [show doOp 7 x y = 1 - x by simp [doOp]]
  go_enter Tryd.func103, Tryd.ntmps103
  go_wp2
  go_quiet (fail)
  go_wp2
  go_ret; exact ⟨rfl, below_drewN (below_alloc _ _) _⟩
set_option maxHeartbeats 1000000 in
theorem valueOf_8 (ha : x = 0 ∨ x = 1) (hb : y = 0 ∨ y = 1) : Calls Tryd.prog 103 #[.agg #[.int .i64 8, .int .i64 tn, .int .i64 p, .int .i64 q], .slice (some ad) n c, .slice A' n' c'] w (GivesInt w (doOp 8 x y)) := by
  rw [show doOp 8 x y = x * y by simp [doOp]]
  rcases ha with rfl | rfl <;> rcases hb with rfl | rfl
  all_goals
    clear x1 x2 y1 y2
    go_enter Tryd.func103, Tryd.ntmps103
    go_wp2
    go_quiet (fail)
    go_wp2
    go_ret; exact ⟨rfl, below_drewN (below_alloc _ _) _⟩
set_option maxHeartbeats 1000000 in
theorem valueOf_9 (ha : x = 0 ∨ x = 1) (hb : y = 0 ∨ y = 1) : Calls Tryd.prog 103 #[.agg #[.int .i64 9, .int .i64 tn, .int .i64 p, .int .i64 q], .slice (some ad) n c, .slice A' n' c'] w (GivesInt w (doOp 9 x y)) := by
  rw [show doOp 9 x y = tr (decide (0 < x + y)) by simp [doOp]]
  rcases ha with rfl | rfl <;> rcases hb with rfl | rfl
  all_goals
    clear x1 x2 y1 y2
    go_enter Tryd.func103, Tryd.ntmps103
    go_wp2
    go_quiet (fail)
    go_wp2
    go_ret; exact ⟨rfl, below_drewN (below_alloc _ _) _⟩
end

section
variable (A A' : Option Addr) (n c n' c' : Nat) (vs st ks : List Int) (vars tn a b : Int) (w : World)

set_option maxHeartbeats 1000000 in
theorem valueOf_any (t : Tm) (h : Rd w w.heap.size 1 A n (ints vs)) (h' : Rd w w.heap.size 1 A' n' (ints st)) (hk : kind t ks st.length ≠ 0) (hf : Fit ks vs) :
    Calls Tryd.prog 103 #[t.v, .slice A n c, .slice A' n' c'] w (GivesInt w (valOf t vs st)) := by
  have hl := h.len
  have hl' := h'.len
  have hks := hf.1
  rcases kind_inv hk with ⟨e, h1, h2, _⟩ | ⟨e, h1, h2, _⟩ | ⟨e1, e2, ⟨a0, a1, ak⟩, ⟨b0, b1, bk⟩, h7, _⟩
  · obtain ⟨op, tn, a, b⟩ := t
    dsimp only at e h1 h2
    subst e
    rw [show valOf ⟨0, tn, a, b⟩ vs st = tn from rfl]
    unfold Tm.v
    clear hl hl' hks hf hk h h'
    go_enter Tryd.func103, Tryd.ntmps103
    go_wp2
    go_ret
    exact ⟨rfl, below_alloc _ _⟩
  · obtain ⟨op, tn, a, b⟩ := t
    dsimp only at e h1 h2
    subst e
    obtain ⟨q, rfl⟩ := Int.eq_ofNat_of_zero_le h1
    rw [show valOf ⟨1, q, a, b⟩ vs st = ix st q from rfl]
    unfold Tm.v
    obtain ⟨ad, rfl, hb, hc⟩ := h'.int (k := q) (by omega)
    have hc := cell_alloc hb hc
    have hq : q < n' := by omega
    clear hl hl' hks hf hk h h' h2
    go_enter Tryd.func103, Tryd.ntmps103
    go_wp2
    go_ret
    exact ⟨rfl, below_alloc _ _⟩
  · obtain ⟨op, tn, a, b⟩ := t
    dsimp only at e1 e2 a0 a1 ak b0 b1 bk h7
    obtain ⟨p, rfl⟩ := Int.eq_ofNat_of_zero_le a0
    obtain ⟨q, rfl⟩ := Int.eq_ofNat_of_zero_le b0
    rw [Int.toNat_natCast] at ak bk
    have fa := hf.2 p (by omega)
    have fb := hf.2 q (by omega)
    rw [ak] at fa
    rw [bk] at fb
    have e : valOf ⟨op, tn, p, q⟩ vs st = doOp op (ix vs p) (ix vs q) := by unfold valOf; dsimp only; rw [if_neg (by omega), if_neg (by omega)]; rfl
    rw [e]
    unfold Tm.v
    obtain ⟨ad, rfl, hb, hc⟩ := h.int (k := p) (by omega)
    obtain ⟨ad', ea, _, hc'⟩ := h.int (k := q) (by omega)
    injection ea with ea; subst ea
    have hc := cell_alloc hb hc
    have hc' := cell_alloc hb hc'
    have hp : p < n := by omega
    have hq : q < n := by omega
    obtain ⟨x1, x2⟩ := fa.1
    obtain ⟨y1, y2⟩ := fb.1
    have w2 : op = 8 ∨ op = 9 → want op = 2 := fun z => by unfold want; rw [if_neg (by omega)]
    obtain rfl | rfl | rfl | rfl | rfl | rfl | rfl | rfl : op = 2 ∨ op = 3 ∨ op = 4 ∨ op = 5 ∨ op = 6 ∨ op = 7 ∨ op = 8 ∨ op = 9 := by omega
    · exact valueOf_2 A' ad n c n' c' p q tn _ _ w hc hc' hp hq x1 x2 y1 y2
    · exact valueOf_3 A' ad n c n' c' p q tn _ _ w hc hc' hp hq x1 x2 y1 y2
    · exact valueOf_4 A' ad n c n' c' p q tn _ _ w hc hc' hp hq x1 x2 y1 y2
    · exact valueOf_5 A' ad n c n' c' p q tn _ _ w hc hc' hp hq
    · exact valueOf_6 A' ad n c n' c' p q tn _ _ w hc hc' hp hq
    · exact valueOf_7 A' ad n c n' c' p q tn _ _ w hc hc' hp hq x1 x2
    · exact valueOf_8 A' ad n c n' c' p q tn _ _ w hc hc' hp hq x1 x2 y1 y2 (fa.2 (w2 (.inl rfl))) (fb.2 (w2 (.inl rfl)))
    · exact valueOf_9 A' ad n c n' c' p q tn _ _ w hc hc' hp hq x1 x2 y1 y2 (fa.2 (w2 (.inr rfl))) (fb.2 (w2 (.inr rfl)))
end
end Go.Proofs.YtmlhnnkdecabpaaDoor
