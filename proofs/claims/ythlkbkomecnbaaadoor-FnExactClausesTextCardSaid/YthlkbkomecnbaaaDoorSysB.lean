/- Systems: rules, of the program and of the model. -/
import Derived.Test.YthlkbkomecnbaaaDoorSpecKinds3
import Derived.Test.YthlkbkomecnbaaaDoorToSy
namespace Go.Proofs.YthlkbkomecnbaaaDoor
open Go.RowKit

theorem Blk.new (w : World) (a : Array Value) (t : TypeId) : Blk (w.alloc (.cells a t)) w.heap.size t a.toList := by
  unfold Blk
  show (w.heap.push _)[w.heap.size]? = _
  rw [Array.getElem?_push_size, Array.toArray_toList]

/-- Whether all of the first n are so. -/
def allTo (f : Nat → Bool) : Nat → Bool
  | 0 => true
  | k + 1 => allTo f k && f k
theorem allTo_true {f : Nat → Bool} {n : Nat} : allTo f n = true ↔ ∀ k, k < n → f k = true := by
  induction n with
  | zero => simp [allTo]
  | succ n ih =>
    simp only [allTo, Bool.and_eq_true, ih]
    constructor
    · rintro ⟨h1, h2⟩ k hk
      by_cases e : k = n
      · subst e; exact h2
      · exact h1 k (by omega)
    · intro h; exact ⟨fun k hk => h k (by omega), h n (by omega)⟩
theorem allTo_false {f : Nat → Bool} {n k : Nat} (hk : k < n) (h : f k = false) : allTo f n = false := by
  cases e : allTo f n with
  | false => rfl
  | true => rw [allTo_true.1 e k hk] at h; cases h
theorem allTo_congr {f g : Nat → Bool} {n : Nat} (h : ∀ k, k < n → f k = g k) : allTo f n = allTo g n := by
  induction n with
  | zero => rfl
  | succ n ih => simp only [allTo, ih fun k hk => h k (by omega), h n (by omega)]
theorem bool_iff {a b : Bool} (h : a = true ↔ b = true) : a = b := by cases a <;> cases b <;> simp_all

/-- Whether a variable is one. -/
def varB (v : Vr) : Bool := inB v.low (-9999) 9999 && (inB v.high (-9999) 9999 && (inB v.first v.low v.high && decide (v.high - v.low + 1 ≤ 20)))
theorem varB_iff {v : Vr} : varB v = true ↔ (-9999 ≤ v.low ∧ v.low ≤ 9999) ∧ (-9999 ≤ v.high ∧ v.high ≤ 9999) ∧ (v.low ≤ v.first ∧ v.first ≤ v.high) ∧ v.high - v.low + 1 ≤ 20 := by simp [varB, inB]

end Go.Proofs.YthlkbkomecnbaaaDoor
namespace Go.Proofs.YthlkbkomecnbaaaDoor
open Go.RowKit

/-- Whether the last kind is k. -/
def lastB (ks : List Int) (k : Int) : Bool := decide (0 < ks.length) && (ix ks (ks.length - 1) == k)
/-- Whether an expression is of kind k. -/
def kindB (l : List Tm) (vars k : Int) : Bool := lastB (kindsOf l vars) k

/-- The least that may stand at a place. -/
def lo (l : List Int) : Nat → Int
  | 0 => 0
  | k + 1 => ix l k + 1
def ascOk (l : List Int) (vars : Int) (k : Nat) : Bool := decide (lo l k ≤ ix l k) && decide (ix l k < vars)
/-- Whether numbers are variables, ascending. -/
def setsB (l : List Int) (vars : Int) : Bool := allTo (ascOk l vars) l.length
theorem asc_at {l : List Int} {vars : Int} {n : Nat} (h : allTo (ascOk l vars) n = true) : ∀ k, k < n → (k : Int) ≤ ix l k ∧ ix l k < vars ∧ lo l k ≤ ix l k := by
  intro k
  induction k with
  | zero =>
    intro hk
    have := allTo_true.1 h 0 hk
    simp only [ascOk, Bool.and_eq_true, decide_eq_true_eq] at this
    have e : lo l 0 = 0 := rfl
    omega
  | succ k ih =>
    intro hk
    have h1 := ih (by omega)
    have := allTo_true.1 h (k + 1) hk
    simp only [ascOk, Bool.and_eq_true, decide_eq_true_eq] at this
    have e : lo l (k + 1) = ix l k + 1 := rfl
    omega
theorem lo_bd {l : List Int} {vars : Int} {n : Nat} (h : allTo (ascOk l vars) n = true) (hv : 0 ≤ vars) : 0 ≤ lo l n ∧ lo l n ≤ vars := by
  cases n with
  | zero => exact ⟨Int.le_refl _, hv⟩
  | succ n =>
    have := asc_at h n (by omega)
    have e : lo l (n + 1) = ix l n + 1 := rfl
    omega

/-- Whether a rule is one over so many variables. -/
def ruleB (r : Rl) (vars : Int) : Bool := kindB r.cond vars 2 && (setsB r.sets vars && (decide (r.terms.length = r.sets.length) && allTo (fun i => kindB (el r.terms i) vars 1) r.terms.length))
theorem rule_bad {r : Rl} {vars : Int} {k : Nat} (hk : k < r.terms.length) (h : kindB (el r.terms k) vars 1 = false) : ruleB r vars = false := by
  unfold ruleB
  rw [allTo_false (f := fun i => kindB (el r.terms i) vars 1) hk h]; simp

end Go.Proofs.YthlkbkomecnbaaaDoor
