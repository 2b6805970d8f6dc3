/- A rule used in a state: plain lists. -/
import Derived.Test.YthplpddddaooiaaUse1
namespace Go.Proofs.Ythplpddddaooiaa
open Go.RowKit

structure ExprOk (l : List Tm) (vars : Nat) : Prop where
  lo : 1 ≤ l.length
  hi : l.length ≤ 40
  ks : ∃ ks, kindsTo l vars l.length = some ks
theorem expr_ok {l : List Tm} {vars : Nat} {k : Int} (h : kindB l vars k = true) : ExprOk l vars := by
  unfold kindB lastB at h
  have h1 : 0 < (kindsOf l vars).length := by
    by_cases q : 0 < (kindsOf l vars).length
    · exact q
    · rw [decide_eq_false q] at h; cases h
  unfold kindsOf at h1
  by_cases hs : sizesOk l.length vars = true
  · rw [if_pos hs] at h1
    have hz : 1 ≤ l.length ∧ l.length ≤ 40 := by simp [sizesOk, inB] at hs; omega
    cases e : kindsTo l vars l.length with
    | none => rw [e] at h1; simp at h1
    | some ks => exact ⟨hz.1, hz.2, ks, e⟩
  · rw [if_neg hs] at h1; simp at h1

structure RuleOk (R : Rl) (v : Nat) : Prop where
  cond : ExprOk R.cond v
  sets : ∀ k, k < R.sets.length → 0 ≤ ix R.sets k ∧ ix R.sets k < v
  lens : R.terms.length = R.sets.length
  terms : ∀ k, k < R.sets.length → ExprOk (el R.terms k) v

theorem rule_ok' {R : Rl} {v : Nat} (h : ruleB R v = true) : RuleOk R v := by
  unfold ruleB setsB at h
  simp only [Bool.and_eq_true, decide_eq_true_eq] at h
  obtain ⟨h1, h2, h3, h4⟩ := h
  exact ⟨expr_ok h1, fun k hk => by have := asc_at h2 k hk; omega, h3, fun k hk => expr_ok (allTo_true.1 h4 k (by omega))⟩

structure SysOk (s : Sy) : Prop where
  lo : 1 ≤ s.vars.length
  hi : s.vars.length ≤ 5
  most : s.rules.length ≤ 8
  vars : ∀ k, k < s.vars.length → varB (el s.vars k) = true
  rules : ∀ k, k < s.rules.length → RuleOk (el s.rules k) s.vars.length
  size : sizeB s ≤ 400
theorem sysOk_of {s : Sy} (h : sysB s = true) : SysOk s := by
  unfold sysB at h
  simp only [Bool.and_eq_true, decide_eq_true_eq] at h
  obtain ⟨h1, h2, h3, h4, h5, h6⟩ := h
  exact ⟨h1, h2, h3, allTo_true.1 h4, fun k hk => rule_ok' (allTo_true.1 h5 k hk), h6⟩
theorem has_len {l : List Vr} {st : List Int} (h : hasB l st = true) : st.length = l.length := by
  unfold hasB at h; simp at h; exact h.1
theorem has_at {l : List Vr} {st : List Int} (h : hasB l st = true) : ∀ k, k < l.length → (el l k).low ≤ ix st k ∧ ix st k ≤ (el l k).high := by
  unfold hasB at h
  simp only [Bool.and_eq_true] at h
  intro k hk
  have := allTo_true.1 h.2 k hk
  simpa [inB] using this
theorem sys_nums {s : Sy} {st : List Int} (hs : SysOk s) (h : hasB s.vars st = true) : NumsOk st := by
  intro i hi
  have e := has_len h
  have a := has_at h i (by omega)
  have b := varB_iff.1 (hs.vars i (by omega))
  omega

/-- A state with the first k variables of a rule set. -/
def madeTo (R : Rl) (st : List Int) : Nat → List Int
  | 0 => st
  | k + 1 => (madeTo R st k).set (ix R.sets k).toNat (valB (el R.terms k) st)
theorem len_made (R : Rl) (st : List Int) : ∀ k, (madeTo R st k).length = st.length
  | 0 => rfl
  | k + 1 => by rw [madeTo, List.length_set, len_made R st k]
/-- What a rule makes of a state; nothing, if it may not be used. -/
def useR (R : Rl) (l : List Vr) (st : List Int) : List Int := if valB R.cond st = 0 then [] else if hasB l (madeTo R st R.sets.length) then madeTo R st R.sets.length else []
def useL (s : Sy) (st : List Int) (r : Nat) : List Int := useR (el s.rules r) s.vars st
theorem use_zero {R : Rl} {l : List Vr} {st : List Int} (h : valB R.cond st = 0) : useR R l st = [] := by unfold useR; rw [if_pos h]
theorem use_out {R : Rl} {l : List Vr} {st : List Int} (h : valB R.cond st ≠ 0) (h2 : hasB l (madeTo R st R.sets.length) = false) : useR R l st = [] := by unfold useR; rw [if_neg h, if_neg (by simp [h2])]
theorem use_in {R : Rl} {l : List Vr} {st : List Int} (h : valB R.cond st ≠ 0) (h2 : hasB l (madeTo R st R.sets.length) = true) : useR R l st = madeTo R st R.sets.length := by unfold useR; rw [if_neg h, if_pos h2]
end Go.Proofs.Ythplpddddaooiaa
