/- When clauses are true (plain). -/
import Derived.Test.YthlkbkomecnbaaaKcP
import Derived.Test.YthlkbkomecnbaaaCiP
namespace Go.Proofs.Ythlkbkomecnbaaa
open Go.RowKit

/-- A literal is true among values. -/
def litT (x : Int) (bs : List Int) : Prop := ix bs (x.natAbs - 1) = if 0 < x then 1 else 0
/-- A clause is. -/
def clT (l : List Int) (bs : List Int) : Prop := ∃ k, k < l.length ∧ litT (ix l k) bs
noncomputable def clTB (l : List Int) (bs : List Int) : Bool := @decide (clT l bs) (Classical.propDecidable _)
theorem clTB_yes {l bs : List Int} (h : clT l bs) : clTB l bs = true := by unfold clTB; exact @decide_eq_true _ (Classical.propDecidable _) h
theorem clTB_no {l bs : List Int} (h : ¬ clT l bs) : clTB l bs = false := by unfold clTB; exact @decide_eq_false _ (Classical.propDecidable _) h
/-- All clauses are true. -/
def TrueOk (s : Cs) (bs : List Int) : Prop := csVB s = true ∧ (bs.length : Int) = s.atoms ∧ arB bs = true ∧ ∀ k, k < s.list.length → clTB (el s.list k) bs = true
noncomputable def trueInB (s : Cs) (bs : List Int) : Bool := @decide (TrueOk s bs) (Classical.propDecidable _)
theorem trueInB_yes {s : Cs} {bs : List Int} (h : TrueOk s bs) : trueInB s bs = true := by unfold trueInB; exact @decide_eq_true _ (Classical.propDecidable _) h
theorem trueInB_no {s : Cs} {bs : List Int} (h : ¬ TrueOk s bs) : trueInB s bs = false := by unfold trueInB; exact @decide_eq_false _ (Classical.propDecidable _) h
/-- What a valid literal's place is. -/
theorem lit_place {l : List Int} {a : Int} (ok : CvOk l a) {k : Nat} (hk : k < l.length) : ∃ j : Nat, (j : Int) < a ∧ (0 < ix l k ∧ ix l k = (j : Int) + 1 ∨ ix l k < 0 ∧ ix l k = -((j : Int) + 1)) ∧ ((ix l k).natAbs : Int) = (j : Int) + 1 ∧ (ix l k).natAbs - 1 = j := by
  obtain ⟨a1, a2, a3⟩ := ok.lit k hk
  have : 0 ≤ aheadL l k := by unfold aheadL; split <;> omega
  refine ⟨(ix l k).natAbs - 1, by omega, ?_, by omega, rfl⟩
  by_cases h : 0 < ix l k
  · left; omega
  · right; omega
end Go.Proofs.Ythlkbkomecnbaaa
