/- spec.KindsOf and both TermsValid. -/
import Derived.Test.YthlkbkomecnbaaaDoorKinds
namespace Go.Proofs.YthlkbkomecnbaaaDoor
open Go.RowKit

section
variable (A : Option Addr) (n c : Nat) (ks : List Int) (vars tn a b : Int) (w : World)

/-- Operations of two: what is wanted, what is given. -/
def OpTwo (op k k' : Int) : Prop := (op = 2 ∧ k = 1 ∧ k' = 1) ∨ (op = 3 ∧ k = 1 ∧ k' = 1) ∨ (op = 4 ∧ k = 1 ∧ k' = 1) ∨ (op = 5 ∧ k = 1 ∧ k' = 2) ∨ (op = 6 ∧ k = 1 ∧ k' = 2) ∨ (op = 8 ∧ k = 2 ∧ k' = 2) ∨ (op = 9 ∧ k = 2 ∧ k' = 2)

end
end Go.Proofs.YthlkbkomecnbaaaDoor
namespace Go.Proofs.YthlkbkomecnbaaaDoor
open Go.RowKit

section
variable (A : Option Addr) (n c : Nat) (ks : List Int) (vars : Int) (w : World)
end

theorem kindAt_nat {ks : List Int} {p : Nat} {k : Int} (h : p < ks.length) : kindAt ks p k = (ix ks p == k) := by
  rw [kindAt_in (by omega) (by omega), Int.toNat_natCast]
theorem kind_of_two {op k k' tn a b vars : Int} {ks : List Int} (h : OpTwo op k k') : kind ⟨op, tn, a, b⟩ ks vars = kIf (ofTwo ⟨op, tn, a, b⟩ ks k) k' := by
  rcases h with ⟨rfl, rfl, rfl⟩ | ⟨rfl, rfl, rfl⟩ | ⟨rfl, rfl, rfl⟩ | ⟨rfl, rfl, rfl⟩ | ⟨rfl, rfl, rfl⟩ | ⟨rfl, rfl, rfl⟩ | ⟨rfl, rfl, rfl⟩ <;> rfl
theorem kIf_false (k : Int) : kIf false k = 0 := rfl
theorem inB_iff {x lo hi : Int} : inB x lo hi = true ↔ lo ≤ x ∧ x ≤ hi := by simp [inB]
theorem inB_not {x lo hi : Int} : inB x lo hi = false ↔ x < lo ∨ hi < x := by
  simp only [inB, Bool.and_eq_false_iff, decide_eq_false_iff_not]; omega

end Go.Proofs.YthlkbkomecnbaaaDoor
namespace Go.Proofs.YthlkbkomecnbaaaDoor
open Go.RowKit

end Go.Proofs.YthlkbkomecnbaaaDoor
