/- The numbers of a system's rules. -/
import Derived.Test.YtmlhnnkdecabpaaDoorSysD
import Derived.Test.YtmlhnnkdecabpaaDoorSysE
namespace Go.Proofs.YtmlhnnkdecabpaaDoor
open Go.RowKit

def ruleIn (s : Sy) (r : Int) : Bool := decide (0 ≤ r) && decide (r < s.rules.length)


theorem ruleIn_at {s : Sy} {r : Int} (h : ruleIn s r = true) : ∃ k : Nat, r = k ∧ k < s.rules.length := by
  unfold ruleIn at h
  simp at h
  exact ⟨r.toNat, by omega, by omega⟩

end Go.Proofs.YtmlhnnkdecabpaaDoor
