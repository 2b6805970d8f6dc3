/- impl.Eval: values kept in an array of the call's own. -/
import Derived.Test.YthlkbkomecnbaaaKinds
namespace Go.Proofs.Ythlkbkomecnbaaa
open Go.RowKit

/-- Held to MaxNumber. -/
def hld (n : Int) : Int := if n < -9999 then -9999 else if 9999 < n then 9999 else n
theorem hld_in (n : Int) : -9999 ≤ hld n ∧ hld n ≤ 9999 := by unfold hld; split <;> (try split) <;> omega
/-- A truth as a number. -/
def tr (b : Bool) : Int := if b then 1 else 0
theorem tr_01 (b : Bool) : tr b = 0 ∨ tr b = 1 := by cases b <;> simp [tr]
/-- What an operation makes of two values. -/
def doOp (op a b : Int) : Int :=
  if op = 2 then hld (a + b) else if op = 3 then hld (a - b) else if op = 4 then hld (a * b) else if op = 5 then tr (decide (a < b)) else if op = 6 then tr (a == b)
  else if op = 7 then 1 - a else if op = 8 then a * b else tr (decide (0 < a + b))
/-- The value of a term behind terms of the values vs. -/
def valOf (t : Tm) (vs st : List Int) : Int := if t.op = 0 then t.n else if t.op = 1 then ix st t.n.toNat else doOp t.op (ix vs t.a.toNat) (ix vs t.b.toNat)
/-- The values of the first k terms. -/
def valsTo (l : List Tm) (st : List Int) : Nat → List Int
  | 0 => []
  | k + 1 => valsTo l st k ++ [valOf (tx l k) (valsTo l st k) st]
theorem len_vals (l : List Tm) (st : List Int) : ∀ k, (valsTo l st k).length = k
  | 0 => rfl
  | k + 1 => by simp [valsTo, len_vals l st k]

/-- Which kind an operation's terms have. -/
def want (op : Int) : Int := if op < 7 then 1 else 2
theorem kIf_ne {b : Bool} {k : Int} (h : kIf b k ≠ 0) : b = true := by cases b; exact absurd rfl h; rfl
theorem kindAt_iff {ks : List Int} {p k : Int} (h : kindAt ks p k = true) : 0 ≤ p ∧ p < ks.length ∧ ix ks p.toNat = k := by
  unfold kindAt at h; simp at h; exact ⟨h.1.1, h.1.2, h.2⟩
/-- What a term that has a kind is. -/
theorem kind_inv {t : Tm} {ks : List Int} {vars : Int} (h : kind t ks vars ≠ 0) :
    (t.op = 0 ∧ -9999 ≤ t.n ∧ t.n ≤ 9999 ∧ kind t ks vars = 1) ∨ (t.op = 1 ∧ 0 ≤ t.n ∧ t.n < vars ∧ kind t ks vars = 1) ∨
    (2 ≤ t.op ∧ t.op ≤ 9 ∧ (0 ≤ t.a ∧ t.a < ks.length ∧ ix ks t.a.toNat = want t.op) ∧ (0 ≤ t.b ∧ t.b < ks.length ∧ ix ks t.b.toNat = want t.op) ∧ (t.op = 7 → t.a = t.b) ∧ kind t ks vars = if t.op < 5 then 1 else 2) := by
  unfold kind at h ⊢
  by_cases e0 : t.op = 0
  · rw [if_pos e0] at h ⊢
    have g := kIf_ne h
    rw [g]
    simp [inB] at g
    exact .inl ⟨e0, g.2.2.1, g.2.2.2, rfl⟩
  rw [if_neg e0] at h ⊢
  by_cases e1 : t.op = 1
  · rw [if_pos e1] at h ⊢
    have g := kIf_ne h
    rw [g]
    simp at g
    exact .inr (.inl ⟨e1, g.2.2.1, g.2.2.2, rfl⟩)
  rw [if_neg e1] at h ⊢
  refine .inr (.inr ?_)
  have two : ∀ {k k' : Int}, kIf (ofTwo t ks k) k' ≠ 0 → (0 ≤ t.a ∧ t.a < ks.length ∧ ix ks t.a.toNat = k) ∧ (0 ≤ t.b ∧ t.b < ks.length ∧ ix ks t.b.toNat = k) ∧ kIf (ofTwo t ks k) k' = k' := by
    intro k k' g
    have g' := kIf_ne g
    rw [g']
    unfold ofTwo at g'
    simp only [Bool.and_eq_true] at g'
    exact ⟨kindAt_iff g'.2.1, kindAt_iff g'.2.2, rfl⟩
  by_cases e2 : t.op = 2 ∨ t.op = 3 ∨ t.op = 4
  · rw [if_pos e2] at h ⊢
    obtain ⟨x, y, z⟩ := two h
    have w : want t.op = 1 := by unfold want; rw [if_pos (by omega)]
    rw [w, z, if_pos (by omega)]
    exact ⟨by omega, by omega, x, y, by omega, rfl⟩
  rw [if_neg e2] at h ⊢
  by_cases e3 : t.op = 5 ∨ t.op = 6
  · rw [if_pos e3] at h ⊢
    obtain ⟨x, y, z⟩ := two h
    have w : want t.op = 1 := by unfold want; rw [if_pos (by omega)]
    rw [w, z, if_neg (by omega)]
    exact ⟨by omega, by omega, x, y, by omega, rfl⟩
  rw [if_neg e3] at h ⊢
  by_cases e4 : t.op = 7
  · rw [if_pos e4] at h ⊢
    have g := kIf_ne h
    simp only [Bool.and_eq_true, beq_iff_eq] at g
    have h' : kIf (ofTwo t ks 2) 2 ≠ 0 := by rw [g.2]; decide
    obtain ⟨x, y, z⟩ := two h'
    have w : want t.op = 2 := by unfold want; rw [if_neg (by omega)]
    rw [w, if_neg (by omega)]
    refine ⟨by omega, by omega, x, y, fun _ => g.1, ?_⟩
    rw [g.2, g.1]; simp [kIf]
  rw [if_neg e4] at h ⊢
  by_cases e5 : t.op = 8 ∨ t.op = 9
  · rw [if_pos e5] at h ⊢
    obtain ⟨x, y, z⟩ := two h
    have w : want t.op = 2 := by unfold want; rw [if_neg (by omega)]
    rw [w, z, if_neg (by omega)]
    exact ⟨by omega, by omega, x, y, by omega, rfl⟩
  rw [if_neg e5] at h
  exact absurd rfl h

/-- Values that fit kinds: each within MaxNumber, a truth 0 or 1. -/
def Fit (ks vs : List Int) : Prop := ks.length = vs.length ∧ ∀ i, i < ks.length → (-9999 ≤ ix vs i ∧ ix vs i ≤ 9999) ∧ (ix ks i = 2 → ix vs i = 0 ∨ ix vs i = 1)
/-- A state: numbers within MaxNumber. -/
def NumsOk (st : List Int) : Prop := ∀ i, i < st.length → -9999 ≤ ix st i ∧ ix st i ≤ 9999
theorem Fit.nil : Fit [] [] := ⟨rfl, fun i h => absurd h (by simp)⟩
theorem ix_left {a b : List Int} {i : Nat} (h : i < a.length) : ix (a ++ b) i = ix a i := by unfold ix; rw [List.getElem?_append_left h]
theorem ix_last {a : List Int} {x : Int} : ix (a ++ [x]) a.length = x := by unfold ix; simp
theorem Fit.snoc {ks vs : List Int} (h : Fit ks vs) {k v : Int} (h1 : -9999 ≤ v ∧ v ≤ 9999) (h2 : k = 2 → v = 0 ∨ v = 1) : Fit (ks ++ [k]) (vs ++ [v]) := by
  refine ⟨by simp [h.1], fun i hi => ?_⟩
  by_cases e : i < ks.length
  · rw [ix_left e, ix_left (by rw [← h.1]; exact e)]
    exact h.2 i e
  · have e' : i = ks.length := by simp at hi; omega
    subst e'
    rw [ix_last]
    rw [h.1, ix_last]
    exact ⟨h1, h2⟩
/-- A term's value fits its kind. -/
theorem valOf_fit {t : Tm} {ks vs st : List Int} (h : kind t ks st.length ≠ 0) (hf : Fit ks vs) (hs : NumsOk st) :
    (-9999 ≤ valOf t vs st ∧ valOf t vs st ≤ 9999) ∧ (kind t ks st.length = 2 → valOf t vs st = 0 ∨ valOf t vs st = 1) := by
  rcases kind_inv h with ⟨e, h1, h2, hk⟩ | ⟨e, h1, h2, hk⟩ | ⟨e1, e2, ⟨a0, a1, ak⟩, ⟨b0, b1, bk⟩, h7, hk⟩
  · unfold valOf; rw [if_pos e, hk]; exact ⟨⟨h1, h2⟩, fun x => absurd x (by decide)⟩
  · unfold valOf; rw [if_neg (by omega), if_pos e, hk]; exact ⟨hs _ (by omega), fun x => absurd x (by decide)⟩
  · unfold valOf; rw [if_neg (by omega), if_neg (by omega), hk]
    have fa := hf.2 t.a.toNat (by omega)
    have fb := hf.2 t.b.toNat (by omega)
    rw [ak] at fa
    rw [bk] at fb
    unfold want at fa fb
    generalize ix vs t.a.toNat = x at *
    generalize ix vs t.b.toNat = y at *
    unfold doOp
    by_cases g2 : t.op = 2
    · rw [if_pos g2]; exact ⟨hld_in _, fun z => absurd z (by rw [if_pos (by omega)]; decide)⟩
    rw [if_neg g2]
    by_cases g3 : t.op = 3
    · rw [if_pos g3]; exact ⟨hld_in _, fun z => absurd z (by rw [if_pos (by omega)]; decide)⟩
    rw [if_neg g3]
    by_cases g4 : t.op = 4
    · rw [if_pos g4]; exact ⟨hld_in _, fun z => absurd z (by rw [if_pos (by omega)]; decide)⟩
    rw [if_neg g4]
    have T : ∀ b : Bool, (-9999 ≤ tr b ∧ tr b ≤ 9999) ∧ ((if t.op < 5 then (1 : Int) else 2) = 2 → tr b = 0 ∨ tr b = 1) := fun b => ⟨by rcases tr_01 b with e | e <;> rw [e] <;> decide, fun _ => tr_01 b⟩
    by_cases g5 : t.op = 5
    · rw [if_pos g5]; exact T _
    rw [if_neg g5]
    by_cases g6 : t.op = 6
    · rw [if_pos g6]; exact T _
    rw [if_neg g6]
    rw [if_neg (by omega)] at fa fb
    by_cases g7 : t.op = 7
    · rw [if_pos g7]; rcases fa.2 rfl with e | e <;> subst e <;> exact ⟨by decide, fun _ => by decide⟩
    rw [if_neg g7]
    by_cases g8 : t.op = 8
    · rw [if_pos g8]; rcases fa.2 rfl with e | e <;> rcases fb.2 rfl with e' | e' <;> subst e <;> subst e' <;> exact ⟨by decide, fun _ => by decide⟩
    · rw [if_neg g8]; exact T _
/-- The values of all terms fit their kinds. -/
theorem vals_fit {l : List Tm} {st : List Int} (hs : NumsOk st) : ∀ {k : Nat} {ks : List Int}, kindsTo l st.length k = some ks → Fit ks (valsTo l st k)
  | 0, ks, h => by simp [kindsTo] at h; subst h; exact Fit.nil
  | k + 1, ks, h => by
    simp only [kindsTo] at h
    cases hk : kindsTo l st.length k with
    | none => rw [hk] at h; cases h
    | some ks' =>
      rw [hk] at h
      dsimp only at h
      split at h
      · cases h
      · rename_i hn
        injection h with h; subst h
        have ih := vals_fit hs hk
        have f := valOf_fit hn ih hs
        exact ih.snoc f.1 f.2

theorem kindsTo_some {l : List Tm} {vars : Int} : ∀ {n : Nat} {ks : List Int}, kindsTo l vars n = some ks → ∀ k, k ≤ n → ∃ ks', kindsTo l vars k = some ks' ∧ (k < n → kind (tx l k) ks' vars ≠ 0) := by
  intro n ks h k hk
  cases hq : kindsTo l vars k with
  | none => rw [kindsTo_none hq n hk] at h; cases h
  | some ks' =>
    refine ⟨ks', rfl, fun hlt e => ?_⟩
    have : kindsTo l vars (k + 1) = none := by simp only [kindsTo, hq]; rw [if_pos e]
    rw [kindsTo_none this n hlt] at h; cases h
end Go.Proofs.Ythlkbkomecnbaaa
namespace Go.Proofs.Ythlkbkomecnbaaa
open Go.RowKit

theorem ret_num {k : IntKind} {a b : Int} (h : a = b) : Ending.returned (.int k a) = .returned (.int k b) := by rw [h]

set_option maxHeartbeats 400000 in
theorem held_any (n : Int) (w : World) : Calls Try.prog 118 #[.int .i64 n] w fun e w' => e = .returned (.int .i64 (hld n)) ∧ w = w' := by
  by_cases h1 : n < -9999
  · have e : hld n = -9999 := by unfold hld; rw [if_pos h1]
    rw [e]; clear e
    go_enter Try.func118, Try.ntmps118
    go_wp2
    go_ret
    exact ⟨rfl, rfl⟩
  by_cases h2 : 9999 < n
  · have e : hld n = 9999 := by unfold hld; rw [if_neg h1, if_pos h2]
    rw [e]; clear e
    go_enter Try.func118, Try.ntmps118
    go_wp2
    go_ret
    exact ⟨rfl, rfl⟩
  · have e : hld n = n := by unfold hld; rw [if_neg h1, if_neg h2]
    rw [e]; clear e
    have h3 : -9999 ≤ n := by omega
    have h4 : n ≤ 9999 := by omega
    clear h1 h2
    go_enter Try.func118, Try.ntmps118
    go_wp2
    all_goals (go_ret; exact ⟨ret_num (by omega), rfl⟩)

theorem truth_any (b : Bool) (w : World) : Calls Try.prog 105 #[.bool b] w fun e w' => e = .returned (.int .i64 (tr b)) ∧ w = w' := by
  cases b <;> (go_enter Try.func105, Try.ntmps105; go_wp2; go_ret; exact ⟨rfl, rfl⟩)

/-- Whether all numbers are within MaxNumber. -/
def numsB (l : List Int) : Bool := l.all fun x => inB x (-9999) 9999
theorem nums_true {l : List Int} (h : ∀ j, j < l.length → inB (ix l j) (-9999) 9999 = true) : numsB l = true := by
  unfold numsB
  rw [List.all_eq_true]
  intro x hx
  obtain ⟨j, hj, rfl⟩ := List.mem_iff_getElem.1 hx
  have := h j hj
  rwa [ix_lt hj] at this
theorem nums_false {l : List Int} {j : Nat} (hj : j < l.length) (h : inB (ix l j) (-9999) 9999 = false) : numsB l = false := by
  unfold numsB
  rw [List.all_eq_false]
  rw [ix_lt hj] at h
  exact ⟨l[j], List.getElem_mem hj, by simp [h]⟩
theorem nums_ok {l : List Int} (h : numsB l = true) : NumsOk l := by
  intro i hi
  unfold numsB at h
  rw [List.all_eq_true] at h
  have := h l[i] (List.getElem_mem hi)
  rw [ix_lt hi]
  simp [inB] at this
  exact this

theorem below_drewN {B : Nat} {a w : World} (h : Below B a w) (n : Nat) : Below B a (w.drewN n) := ⟨h.os, h.tape, h.output, h.size, h.block⟩
theorem mul_in {x y : Int} (x1 : -9999 ≤ x) (x2 : x ≤ 9999) (y1 : -9999 ≤ y) (y2 : y ≤ 9999) : -99980001 ≤ x * y ∧ x * y ≤ 99980001 := by
  have h : (x * y).natAbs ≤ 99980001 := by
    rw [Int.natAbs_mul]
    calc x.natAbs * y.natAbs ≤ 9999 * 9999 := Nat.mul_le_mul (by omega) (by omega)
      _ = 99980001 := by decide
  omega

section
variable (A' : Option Addr) (ad : Addr) (n c n' c' p q : Nat) (tn x y : Int) (w : World)
  (hc : ∀ o, (w.alloc o).cell? (ad.add p) = some (.int .i64 x)) (hc' : ∀ o, (w.alloc o).cell? (ad.add q) = some (.int .i64 y)) (hp : p < n) (hq : q < n) (x1 : -9999 ≤ x) (x2 : x ≤ 9999) (y1 : -9999 ≤ y) (y2 : y ≤ 9999)
include hc hc' hp hq x1 x2 y1 y2
set_option maxHeartbeats 1000000 in
theorem valueOf_2 : Calls Try.prog 181 #[.agg #[.int .i64 2, .int .i64 tn, .int .i64 p, .int .i64 q], .slice (some ad) n c, .slice A' n' c'] w (GivesInt w (doOp 2 x y)) := by
  rw [show doOp 2 x y = hld (x + y) by simp [doOp]]
  go_enter Try.func181, Try.ntmps181
  go_wp2
  go_quiet (fail)
  go_wp2_with (first | (go_at_call 118; refine (held_any _ _).mono ?_; rintro e w' ⟨rfl, rfl⟩))
  go_ret; exact ⟨rfl, below_drewN (below_alloc _ _) _⟩
set_option maxHeartbeats 1000000 in
theorem valueOf_3 : Calls Try.prog 181 #[.agg #[.int .i64 3, .int .i64 tn, .int .i64 p, .int .i64 q], .slice (some ad) n c, .slice A' n' c'] w (GivesInt w (doOp 3 x y)) := by
  rw [show doOp 3 x y = hld (x - y) by simp [doOp]]
  go_enter Try.func181, Try.ntmps181
  go_wp2
  go_quiet (fail)
  go_wp2_with (first | (go_at_call 118; refine (held_any _ _).mono ?_; rintro e w' ⟨rfl, rfl⟩))
  go_ret; exact ⟨rfl, below_drewN (below_alloc _ _) _⟩
set_option maxHeartbeats 1000000 in
theorem valueOf_4 : Calls Try.prog 181 #[.agg #[.int .i64 4, .int .i64 tn, .int .i64 p, .int .i64 q], .slice (some ad) n c, .slice A' n' c'] w (GivesInt w (doOp 4 x y)) := by
  rw [show doOp 4 x y = hld (x * y) by simp [doOp]]
  obtain ⟨m1, m2⟩ := mul_in x1 x2 y1 y2
  go_enter Try.func181, Try.ntmps181
  go_wp2
  go_quiet (fail)
  go_wp2_with (first | (go_at_call 118; refine (held_any _ _).mono ?_; rintro e w' ⟨rfl, rfl⟩))
  go_ret; exact ⟨rfl, below_drewN (below_alloc _ _) _⟩
omit x1 x2 y1 y2 in
set_option maxHeartbeats 1000000 in
theorem valueOf_5 : Calls Try.prog 181 #[.agg #[.int .i64 5, .int .i64 tn, .int .i64 p, .int .i64 q], .slice (some ad) n c, .slice A' n' c'] w (GivesInt w (doOp 5 x y)) := by
  rw [show doOp 5 x y = tr (decide (x < y)) by simp [doOp]]
  go_enter Try.func181, Try.ntmps181
  go_wp2
  go_quiet (fail)
  go_wp2_with (first | (go_at_call 105; refine (truth_any _ _).mono ?_; rintro e w' ⟨rfl, rfl⟩))
  go_ret; exact ⟨rfl, below_drewN (below_alloc _ _) _⟩
omit x1 x2 y1 y2 in
set_option maxHeartbeats 1000000 in
theorem valueOf_6 : Calls Try.prog 181 #[.agg #[.int .i64 6, .int .i64 tn, .int .i64 p, .int .i64 q], .slice (some ad) n c, .slice A' n' c'] w (GivesInt w (doOp 6 x y)) := by
  rw [show doOp 6 x y = tr (x == y) by simp [doOp]]
  go_enter Try.func181, Try.ntmps181
  go_wp2
  go_quiet (fail)
  go_wp2_with (first | (go_at_call 105; refine (truth_any _ _).mono ?_; rintro e w' ⟨rfl, rfl⟩))
  go_ret; exact ⟨rfl, below_drewN (below_alloc _ _) _⟩
omit y1 y2 in
set_option maxHeartbeats 1000000 in
theorem valueOf_7 : Calls Try.prog 181 #[.agg #[.int .i64 7, .int .i64 tn, .int .i64 p, .int .i64 q], .slice (some ad) n c, .slice A' n' c'] w (GivesInt w (doOp 7 x y)) := by
  rw [show doOp 7 x y = 1 - x by simp [doOp]]
  go_enter Try.func181, Try.ntmps181
  go_wp2
  go_quiet (fail)
  go_wp2
  go_ret; exact ⟨rfl, below_drewN (below_alloc _ _) _⟩
set_option maxHeartbeats 1000000 in
theorem valueOf_8 (ha : x = 0 ∨ x = 1) (hb : y = 0 ∨ y = 1) : Calls Try.prog 181 #[.agg #[.int .i64 8, .int .i64 tn, .int .i64 p, .int .i64 q], .slice (some ad) n c, .slice A' n' c'] w (GivesInt w (doOp 8 x y)) := by
  rw [show doOp 8 x y = x * y by simp [doOp]]
  rcases ha with rfl | rfl <;> rcases hb with rfl | rfl
  all_goals
    clear x1 x2 y1 y2
    go_enter Try.func181, Try.ntmps181
    go_wp2
    go_quiet (fail)
    go_wp2
    go_ret; exact ⟨rfl, below_drewN (below_alloc _ _) _⟩
set_option maxHeartbeats 1000000 in
theorem valueOf_9 (ha : x = 0 ∨ x = 1) (hb : y = 0 ∨ y = 1) : Calls Try.prog 181 #[.agg #[.int .i64 9, .int .i64 tn, .int .i64 p, .int .i64 q], .slice (some ad) n c, .slice A' n' c'] w (GivesInt w (doOp 9 x y)) := by
  rw [show doOp 9 x y = tr (decide (0 < x + y)) by simp [doOp]]
  rcases ha with rfl | rfl <;> rcases hb with rfl | rfl
  all_goals
    clear x1 x2 y1 y2
    go_enter Try.func181, Try.ntmps181
    go_wp2
    go_quiet (fail)
    go_wp2
    go_ret; exact ⟨rfl, below_drewN (below_alloc _ _) _⟩
end

section
variable (A A' : Option Addr) (n c n' c' : Nat) (vs st ks : List Int) (vars tn a b : Int) (w : World)

set_option maxHeartbeats 1000000 in
theorem valueOf_any (t : Tm) (h : Rd w w.heap.size 1 A n (ints vs)) (h' : Rd w w.heap.size 1 A' n' (ints st)) (hk : kind t ks st.length ≠ 0) (hf : Fit ks vs) :
    Calls Try.prog 181 #[t.v, .slice A n c, .slice A' n' c'] w (GivesInt w (valOf t vs st)) := by
  have hl := h.len
  have hl' := h'.len
  have hks := hf.1
  rcases kind_inv hk with ⟨e, h1, h2, _⟩ | ⟨e, h1, h2, _⟩ | ⟨e1, e2, ⟨a0, a1, ak⟩, ⟨b0, b1, bk⟩, h7, _⟩
  · obtain ⟨op, tn, a, b⟩ := t
    dsimp only at e h1 h2
    subst e
    rw [show valOf ⟨0, tn, a, b⟩ vs st = tn from rfl]
    unfold Tm.v
    clear hl hl' hks hf hk h h'
    go_enter Try.func181, Try.ntmps181
    go_wp2
    go_ret
    exact ⟨rfl, below_alloc _ _⟩
  · obtain ⟨op, tn, a, b⟩ := t
    dsimp only at e h1 h2
    subst e
    obtain ⟨q, rfl⟩ := Int.eq_ofNat_of_zero_le h1
    rw [show valOf ⟨1, q, a, b⟩ vs st = ix st q from rfl]
    unfold Tm.v
    obtain ⟨ad, rfl, hb, hc⟩ := h'.int (k := q) (by omega)
    have hc := cell_alloc hb hc
    have hq : q < n' := by omega
    clear hl hl' hks hf hk h h' h2
    go_enter Try.func181, Try.ntmps181
    go_wp2
    go_ret
    exact ⟨rfl, below_alloc _ _⟩
  · obtain ⟨op, tn, a, b⟩ := t
    dsimp only at e1 e2 a0 a1 ak b0 b1 bk h7
    obtain ⟨p, rfl⟩ := Int.eq_ofNat_of_zero_le a0
    obtain ⟨q, rfl⟩ := Int.eq_ofNat_of_zero_le b0
    rw [Int.toNat_natCast] at ak bk
    have fa := hf.2 p (by omega)
    have fb := hf.2 q (by omega)
    rw [ak] at fa
    rw [bk] at fb
    have e : valOf ⟨op, tn, p, q⟩ vs st = doOp op (ix vs p) (ix vs q) := by unfold valOf; dsimp only; rw [if_neg (by omega), if_neg (by omega)]; rfl
    rw [e]
    unfold Tm.v
    obtain ⟨ad, rfl, hb, hc⟩ := h.int (k := p) (by omega)
    obtain ⟨ad', ea, _, hc'⟩ := h.int (k := q) (by omega)
    injection ea with ea; subst ea
    have hc := cell_alloc hb hc
    have hc' := cell_alloc hb hc'
    have hp : p < n := by omega
    have hq : q < n := by omega
    obtain ⟨x1, x2⟩ := fa.1
    obtain ⟨y1, y2⟩ := fb.1
    have w2 : op = 8 ∨ op = 9 → want op = 2 := fun z => by unfold want; rw [if_neg (by omega)]
    obtain rfl | rfl | rfl | rfl | rfl | rfl | rfl | rfl : op = 2 ∨ op = 3 ∨ op = 4 ∨ op = 5 ∨ op = 6 ∨ op = 7 ∨ op = 8 ∨ op = 9 := by omega
    · exact valueOf_2 A' ad n c n' c' p q tn _ _ w hc hc' hp hq x1 x2 y1 y2
    · exact valueOf_3 A' ad n c n' c' p q tn _ _ w hc hc' hp hq x1 x2 y1 y2
    · exact valueOf_4 A' ad n c n' c' p q tn _ _ w hc hc' hp hq x1 x2 y1 y2
    · exact valueOf_5 A' ad n c n' c' p q tn _ _ w hc hc' hp hq
    · exact valueOf_6 A' ad n c n' c' p q tn _ _ w hc hc' hp hq
    · exact valueOf_7 A' ad n c n' c' p q tn _ _ w hc hc' hp hq x1 x2
    · exact valueOf_8 A' ad n c n' c' p q tn _ _ w hc hc' hp hq x1 x2 y1 y2 (fa.2 (w2 (.inl rfl))) (fb.2 (w2 (.inl rfl)))
    · exact valueOf_9 A' ad n c n' c' p q tn _ _ w hc hc' hp hq x1 x2 y1 y2 (fa.2 (w2 (.inr rfl))) (fb.2 (w2 (.inr rfl)))
end
end Go.Proofs.Ythlkbkomecnbaaa
namespace Go.Proofs.Ythlkbkomecnbaaa
open Go.RowKit

/-- A block of any type whose first n cells are xs. -/
def Arr (w : World) (T : TypeId) (g cap n : Nat) (xs : List Value) : Prop := ∃ cur : Array Value, w.heap[g]? = some (.cells cur T (0, 0)) ∧ cur.size = cap ∧ n ≤ cap ∧ xs.length = n ∧ cur.toList.take n = xs
section
variable {w w' : World} {T : TypeId} {g cap n : Nat} {xs : List Value}
theorem Arr.lt (h : Arr w T g cap n xs) : g < w.heap.size := by
  obtain ⟨cur, h, _⟩ := h
  exact (Array.getElem?_eq_some_iff.1 h).1
theorem Arr.below {B : Nat} (h : Arr w T g cap n xs) (hb : Below B w w') (hg : g < B) : Arr w' T g cap n xs := by
  obtain ⟨cur, h1, h2⟩ := h
  exact ⟨cur, (hb.block g hg).trans h1, h2⟩
theorem Arr.alloc (h : Arr w T g cap n xs) (o : Obj) : Arr (w.alloc o) T g cap n xs := h.below (below_alloc w o) h.lt
theorem Arr.rd (h : Arr w T g cap n xs) : Rd w w.heap.size 1 (some ⟨g, 0, none⟩) n xs := by
  have hg := h.lt
  obtain ⟨cur, h1, h2, h3, h4, h5⟩ := h
  refine ⟨by omega, fun _ => ⟨_, rfl, hg, fun j u hu => ?_⟩⟩
  have hadd : (⟨g, 0, none⟩ : Addr).add j = ⟨g, j, none⟩ := by unfold Addr.add; split <;> simp_all
  rw [hadd, cell_of_row w g j cur T (0, 0) h1]
  rw [← h5, List.getElem?_take] at hu
  split at hu
  · simpa using hu
  · cases hu

/-- 'append' of one int within an array of the call's own. -/
theorem run_app_arr {P : Program} {t ty e : TypeId} {i : TypeInfo} (ht : P.underlying t = some (.slice e)) (hi : P.info? e = some i) (h1 : i.size = 1) (z : Int) {tz : TypeId} (h : Arr w T g cap n xs) (hn : n < cap) :
    ∃ w', (Builtin.append_ #[t, t] ty #[.slice (some ⟨g, 0, none⟩) n cap, .slice (some ⟨w.heap.size, 0, none⟩) 1 1]).run P (w.alloc (.cells #[.int .i64 z] tz)) = .ok (.slice (some ⟨g, 0, none⟩) (n + 1) cap) w' ∧
      Arr w' T g cap (n + 1) (xs ++ [.int .i64 z]) ∧ (w.alloc (.cells #[.int .i64 z] tz)).grownBy w' (some g) := by
  have hx := h.alloc (.cells #[.int .i64 z] tz)
  obtain ⟨cur, hg, hc, hnc, hl, ht'⟩ := hx
  have hcell : ∀ (j : Nat) (u : Value), [Value.int .i64 z][j]? = some u → (w.alloc (.cells #[.int .i64 z] tz)).cell? ((⟨w.heap.size, 0, none⟩ : Addr).add j) = some u := by
    intro j u hu
    cases j with
    | zero => rw [add_zero', World.cell?_alloc_at _ _ _ _ rfl]; simpa using hu
    | succ j => simp at hu
  have hf := run_firstCells_some (P := P) (w.alloc (.cells #[.int .i64 z] tz)) 1 1 ⟨w.heap.size, 0, none⟩ 1 1 [.int .i64 z] rfl hcell
  have hst := run_storeCells_at P g n T [.int .i64 z] 0 cur (w.alloc (.cells #[.int .i64 z] tz)) hg (by simp; omega) (by intro u hu; simp at hu; subst hu; rfl)
  simp only [Nat.add_zero] at hst
  refine ⟨(w.alloc (.cells #[.int .i64 z] tz)).setRow g (cur.toList.take n ++ [Value.int .i64 z] ++ cur.toList.drop (n + 1)).toArray, ?_, ?_, ?_⟩
  · rw [show n + [Value.int .i64 z].length = n + 1 from rfl] at hst
    simp only [Builtin.append_, sizeOf, typeInfo, Builtin.lenOf]
    simp [run_underlying ht, hi, h1, show n + 1 ≤ cap from hn, hf, Addr.add_lit]
    simp at hst
    rw [hst]; rfl
  · refine ⟨_, setRow_heap _ g cur _ T _ hg, ?_, hn, by simp [hl], ?_⟩
    · simp; omega
    · rw [← ht']
      have e : (cur.toList.take n).length = n := by simp; omega
      rw [List.toList_toArray, List.take_append_of_le_length (by simp; omega), List.take_of_length_le (by simp; omega)]
  · exact ⟨rfl, rfl, rfl, by simp, fun k _ hk => setRow_other _ g k _ (fun e => hk (by simp [e]))⟩

theorem app_arr {ops : Array Oper} {rest : List Oper} {o : Oper} {a : Act} {Q : Exit → Act → World → Prop} (hgd : o.guard = none) (s x : Operand)
    (ho : o.op = .call { callee := .builtin .append, args := #[s, x], argTypes := #[22, 22] }) (l : List Int) (z : Int)
    (hs : a.eval s = .slice (some ⟨g, 0, none⟩) n cap) (h : Arr w T g cap n (ints l)) (hx : a.eval x = .slice (some ⟨w.heap.size, 0, none⟩) 1 1) (hn : n < cap)
    (hK : ∀ w', Arr w' T g cap (n + 1) (ints (l ++ [z])) → (w.alloc (.cells #[.int .i64 z] 3)).grownBy w' (some g) → wpList Try.prog ops Q rest (a.put o.dst (.slice (some ⟨g, 0, none⟩) (n + 1) cap)) w') :
    wpList Try.prog ops Q (o :: rest) a (w.alloc (.cells #[.int .i64 z] 3)) := by
  obtain ⟨w', hr, h1, h2⟩ := run_app_arr (P := Try.prog) (ty := o.type) (tz := 3) Try.underlying22 int_row.1 int_row.2.2.1 z h hn
  refine wpList_plain hgd fun K hK' => ?_
  unfold Oper.wp execOp
  simp only [ho, resolve, invoke, builtin, Sem.run_bind, Sem.run_pure, Result.andThen_ok, List.map_toArray, List.map_cons, List.map_nil, hs, hx, hr]
  exact hK' _ _ (hK w' (by simpa [ints] using h1) h2)
end

set_option maxHeartbeats 2000000 in
theorem valueIn_any (A : Option Addr) (n c : Nat) (A' : Option Addr) (n' c' : Nat) (l : List Tm) (st ks : List Int) (w : World) (h : Rd w w.heap.size 4 A n (tms l)) (h' : Rd w w.heap.size 1 A' n' (ints st)) (hn : n ≤ 40) (hn1 : 1 ≤ n)
    (hs : NumsOk st) (hks : kindsTo l st.length n = some ks) :
    Calls Try.prog 163 #[.slice A n c, .slice A' n' c'] w (GivesInt w (ix (valsTo l st n) (n - 1))) := by
  have hks := Lib.hid hks
  have harr : ∀ cur : Array Value, cur.size = 40 → Arr (w.alloc (.cells cur 195)) 195 w.heap.size 40 0 (ints []) := fun cur hc => ⟨cur, heap_alloc_new w _, hc, by omega, rfl, by simp [ints]⟩
  have harr := Lib.hid harr
  go_enter Try.func163, Try.ntmps163
  go_wp2
  go_loopg [6, 12] n (fun m v i wr => ∃ k : Nat, k + m = n ∧ i = .int .i64 k ∧ v = .slice (some ⟨w.heap.size, 0, none⟩) k 40 ∧ Arr wr 195 w.heap.size 40 k (ints (valsTo l st k)) ∧ Below w.heap.size w wr)
  case atStart => exact ⟨0, by omega, rfl, rfl, harr.out _ rfl, below_alloc _ _⟩
  case round =>
    obtain ⟨k, hk, rfl, rfl, ha, hb⟩ := hrel
    by_cases hlt : k < n
    · obtain ⟨ks', hk', hne⟩ := kindsTo_some hks.out k (by omega)
      have hne := hne hlt
      have hfit := vals_fit hs hk'
      obtain ⟨ad, rfl, _, h0, h1, h2, h3⟩ := (h.below hb).tm hlt
      have R1 := fun o => ((ha.alloc o).rd)
      have R2 := fun o => (((h'.below hb).more hb.size).alloc (Nat.le_refl _) o).more (B' := (wr.alloc o).heap.size) (by simp)
      have CV := fun o => valueOf_any (some ⟨w.heap.size, 0, none⟩) A' k 40 n' c' (valsTo l st k) st ks' (wr.alloc o) (tx l k) (R1 o) (R2 o) hne hfit
      have CV := Lib.hid CV
      clear R1 R2
      have HK := Lib.hid hk'
      clear hk' hne hfit
      go_wp2_with (first
        | (go_at_call 181; refine (CV.out _).mono ?_; rintro e w2 ⟨rfl, hb2⟩; have hb3 := below_call hb2)
        | (at_builtin; refine app_arr rfl _ _ rfl (valsTo l st k) _ rfl (ha.below hb3 ha.lt) rfl (by omega) ?_; intro w3 ha3 hg3))
      go_roundg (n - (k + 1))
      case measure => omega
      case rel =>
        refine ⟨k + 1, by omega, by go_num, rfl, ha3, ?_⟩
        have s1 := hb.trans (hb3.mono hb.size)
        exact (s1.alloc s1.size _).grown hg3 (by have := s1.size; simp; omega) (by simp)
    · obtain rfl : k = n := by omega
      obtain ⟨p, rfl⟩ : ∃ p, k = p + 1 := ⟨k - 1, by omega⟩
      obtain ⟨ad, ea, _, h0⟩ := ha.rd.int (k := p) (by omega)
      injection ea with ea
      subst ea
      rw [show (⟨w.heap.size, 0, none⟩ : Addr).add p = ⟨w.heap.size, p, none⟩ by unfold Addr.add; split <;> simp_all] at h0
      go_wp2
      go_ret
      exact ⟨by simp, hb⟩

/-- The call gives this value; nothing that was there has changed. -/
def GivesV (w : World) (v : Value) (e : Ending) (w' : World) : Prop := e = .returned v ∧ Below w.heap.size w w'

end Go.Proofs.Ythlkbkomecnbaaa
