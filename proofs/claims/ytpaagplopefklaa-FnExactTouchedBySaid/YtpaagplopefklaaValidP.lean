/- What a valid expression is made of. -/
import Derived.Test.YtpaagplopefklaaEvalB
import Derived.Test.YtpaagplopefklaaSpecKinds4
namespace Go.Proofs.Ytpaagplopefklaa
open Go.RowKit

theorem valid_small {l : List Tm} {vars : Int} (h : validB l vars = true) : 1 ≤ l.length ∧ l.length ≤ 40 ∧ 0 ≤ vars ∧ vars ≤ 5 := by
  unfold validB kindsOf at h
  by_cases hs : sizesOk l.length vars = true
  · simp [sizesOk] at hs; omega
  · rw [if_neg hs] at h; simp at h


theorem valid_kinds2 {l : List Tm} {vars : Int} (h : validB l vars = true) : sizesOk l.length vars = true ∧ ∃ ks, kindsTo l vars l.length = some ks := by
  unfold validB kindsOf at h
  by_cases hs : sizesOk l.length vars = true
  · rw [if_pos hs] at h
    refine ⟨hs, ?_⟩
    cases hk : kindsTo l vars l.length with
    | none => rw [hk] at h; simp at h
    | some ks => exact ⟨ks, rfl⟩
  · rw [if_neg hs] at h; simp at h
/-- Each term of an expression has a kind among those ahead of it. -/
theorem valid_kind {l : List Tm} {vars : Int} (h : validB l vars = true) {k : Nat} (hk : k < l.length) : ∃ ks, ks.length = k ∧ kind (tx l k) ks vars ≠ 0 := by
  obtain ⟨_, ks, hks⟩ := valid_kinds2 h
  obtain ⟨ks', h1, h2⟩ := kindsTo_some hks k (by omega)
  exact ⟨ks', kindsTo_len h1, h2 hk⟩

/-- What an operation of an expression refers to. -/
theorem op_small {l : List Tm} {vars : Int} (h : validB l vars = true) {k : Nat} (hk : k < l.length) (e : 2 ≤ (tx l k).op) : 0 ≤ (tx l k).a ∧ (tx l k).a < 40 ∧ 0 ≤ (tx l k).b ∧ (tx l k).b < 40 := by
  obtain ⟨ks, h1, h2⟩ := valid_kind h hk
  have := valid_small h
  rcases kind_inv h2 with ⟨e', _⟩ | ⟨e', _⟩ | ⟨_, _, ⟨a0, a1, _⟩, ⟨b0, b1, _⟩, _⟩ <;> omega
end Go.Proofs.Ytpaagplopefklaa
