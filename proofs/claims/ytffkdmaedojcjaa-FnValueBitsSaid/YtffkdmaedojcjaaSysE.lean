/- Systems: the program's SystemValid, SizeOf, FirstState, InRange. -/
import Derived.Test.YtffkdmaedojcjaaSysB
import Derived.Test.YtffkdmaedojcjaaKinds
namespace Go.Proofs.Ytffkdmaedojcjaa
open Go.RowKit

/-- The product of the spans of the first k variables. -/
def prodTo (l : List Vr) : Nat → Int
  | 0 => 1
  | k + 1 => prodTo l k * ((el l k).high - (el l k).low + 1)
theorem prod_bd {l : List Vr} : ∀ {k : Nat}, allTo (fun i => varB (el l i)) k = true → 1 ≤ prodTo l k ∧ prodTo l k ≤ 20 ^ k
  | 0, _ => by simp [prodTo]
  | k + 1, h => by
    simp only [allTo, Bool.and_eq_true] at h
    obtain ⟨i1, i2⟩ := prod_bd (k := k) h.1
    have hv := varB_iff.1 h.2
    generalize hs : (el l k).high - (el l k).low + 1 = s at *
    have s1 : 1 ≤ s := by omega
    have s2 : s ≤ 20 := by omega
    have e : prodTo l (k + 1) = prodTo l k * s := by rw [← hs]; rfl
    rw [e, Int.pow_succ]
    constructor
    · calc (1 : Int) = 1 * 1 := rfl
        _ ≤ prodTo l k * s := Int.mul_le_mul i1 s1 (by omega) (by omega)
    · exact Int.mul_le_mul i2 s2 (by omega) (Int.le_trans (by omega) i2)
theorem prod_bd5 {l : List Vr} {k : Nat} (h : allTo (fun i => varB (el l i)) k = true) (hk : k ≤ 5) : 1 ≤ prodTo l k ∧ prodTo l k ≤ 3200000 := by
  have := prod_bd h
  have e : (20 : Int) ^ k ≤ 20 ^ 5 := by
    have : k = 0 ∨ k = 1 ∨ k = 2 ∨ k = 3 ∨ k = 4 ∨ k = 5 := by omega
    rcases this with rfl | rfl | rfl | rfl | rfl | rfl <;> decide
  have e5 : (20 : Int) ^ 5 = 3200000 := by decide
  omega

/-- How many states there are. -/
def sizeB (s : Sy) : Int := prodTo s.vars s.vars.length
/-- Whether a system is one. -/
def sysB (s : Sy) : Bool := decide (1 ≤ s.vars.length) && (decide (s.vars.length ≤ 5) && (decide (s.rules.length ≤ 8) && (allTo (fun i => varB (el s.vars i)) s.vars.length && (allTo (fun i => ruleB (el s.rules i) s.vars.length) s.rules.length && decide (sizeB s ≤ 400)))))

end Go.Proofs.Ytffkdmaedojcjaa
namespace Go.Proofs.Ytffkdmaedojcjaa
open Go.RowKit

theorem sys_short {s : Sy} (h : ¬ (1 ≤ s.vars.length ∧ s.vars.length ≤ 5 ∧ s.rules.length ≤ 8)) : sysB s = false := by
  cases e : sysB s with
  | false => rfl
  | true => simp only [sysB, Bool.and_eq_true, decide_eq_true_eq] at e; exact absurd ⟨e.1, e.2.1, e.2.2.1⟩ h
theorem sys_var {s : Sy} {k : Nat} (hk : k < s.vars.length) (h : varB (el s.vars k) = false) : sysB s = false := by
  unfold sysB; rw [allTo_false (f := fun i => varB (el s.vars i)) hk h]; simp
theorem sys_rule {s : Sy} {k : Nat} (hk : k < s.rules.length) (h : ruleB (el s.rules k) s.vars.length = false) : sysB s = false := by
  unfold sysB; rw [allTo_false (f := fun i => ruleB (el s.rules i) s.vars.length) hk h]; simp
theorem sys_end {s : Sy} (h : 1 ≤ s.vars.length ∧ s.vars.length ≤ 5 ∧ s.rules.length ≤ 8) (hv : allTo (fun i => varB (el s.vars i)) s.vars.length = true) (hr : allTo (fun i => ruleB (el s.rules i) s.vars.length) s.rules.length = true) :
    sysB s = decide (sizeB s ≤ 400) := by
  unfold sysB; rw [hv, hr]; simp [h.1, h.2.1, h.2.2]
theorem sys_ok {s : Sy} (h : sysB s = true) : (1 ≤ s.vars.length ∧ s.vars.length ≤ 5 ∧ s.rules.length ≤ 8) ∧ allTo (fun i => varB (el s.vars i)) s.vars.length = true ∧ allTo (fun i => ruleB (el s.rules i) s.vars.length) s.rules.length = true ∧ sizeB s ≤ 400 := by
  simp only [sysB, Bool.and_eq_true, decide_eq_true_eq] at h
  exact ⟨⟨h.1, h.2.1, h.2.2.1⟩, h.2.2.2.1, h.2.2.2.2.1, h.2.2.2.2.2⟩

end Go.Proofs.Ytffkdmaedojcjaa
