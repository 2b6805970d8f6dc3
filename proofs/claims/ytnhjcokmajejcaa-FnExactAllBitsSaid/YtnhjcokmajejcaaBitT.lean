/- Bits: the model's functions. -/
import Derived.Test.YtnhjcokmajejcaaBitS
import Derived.Test.YtnhjcokmajejcaaIl
namespace Go.Proofs.Ytnhjcokmajejcaa
open Go.RowKit

theorem stBits_len (l : List Vr) (st : List Int) : (stBits l st).length = widTo l l.length := bitsN_len _ _

theorem pow_shl {m : Nat} (h : m ≤ 12) : IntKind.i64.wrap ((2 : Int) ^ m) = ((2 ^ m : Nat) : Int) ∧ 2 ^ m ≤ 4096 := by
  have h2 : 2 ^ m ≤ 2 ^ 12 := Nat.pow_le_pow_right (by omega) h
  have hp : (2 : Int) ^ m = ((2 ^ m : Nat) : Int) := by simp
  rw [hp]
  generalize 2 ^ m = X at h2 ⊢
  exact ⟨IntWalk.i64_in _ (by omega), h2⟩

end Go.Proofs.Ytnhjcokmajejcaa
