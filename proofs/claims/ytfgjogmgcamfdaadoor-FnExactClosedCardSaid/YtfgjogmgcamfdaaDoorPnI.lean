/- The numbers ahead of those of a set, of the program. -/
import Derived.Test.YtfgjogmgcamfdaaDoorNnI
namespace Go.Proofs.YtfgjogmgcamfdaaDoor
open Go.RowKit

theorem empty_iff {R : Nat → Bool} : emptyB R = true ↔ ∀ x, x < 448 → R x = false := by
  have hw : emptyB R = true ↔ ∀ i, i < 7 → wd R i = 0 := by
    unfold emptyB
    simp only [Bool.and_eq_true, beq_iff_eq]
    constructor
    · rintro ⟨a, b, c, d, e, f, g⟩ i hi
      match i, hi with
      | 0, _ => exact a
      | 1, _ => exact b
      | 2, _ => exact c
      | 3, _ => exact d
      | 4, _ => exact e
      | 5, _ => exact f
      | 6, _ => exact g
    · intro h
      exact ⟨h 0 (by omega), h 1 (by omega), h 2 (by omega), h 3 (by omega), h 4 (by omega), h 5 (by omega), h 6 (by omega)⟩
  rw [hw]
  constructor
  · intro h x hx
    have := wd_zero (h (x / 64) (by omega)) (j := x % 64) (Nat.mod_lt _ (by omega))
    rwa [show 64 * (x / 64) + x % 64 = x by omega] at this
  · intro h i hi
    rw [← wd_none i]
    exact wd_congr fun j hj => h _ (by omega)
/-- Whether a state comes ahead of one of a list. -/
def paP (s : Sy) (l : List Int) : Nat → Bool := fun n => !emptyB (gBoth (nxP s (stL s.vars n) s.rules.length) (memP l))
theorem pa_ahe {s : Sy} {l : List Int} {z n : Nat} (h : setB s l = true) (hz : (z : Int) = sizeB s) (hz4 : z ≤ 400) : paP s l n = aheP s (memP l) z n := by
  unfold setB at h
  rw [Bool.and_eq_true] at h
  have ok := sysOk_of h.1
  apply bool_iff
  unfold paP aheP
  rw [some_iff]
  cases q : emptyB (gBoth (nxP s (stL s.vars n) s.rules.length) (memP l))
  · simp only [Bool.not_false, true_iff]
    by_cases hex : ∃ x, x < 448 ∧ gBoth (nxP s (stL s.vars n) s.rules.length) (memP l) x = true
    · obtain ⟨x, _, hx⟩ := hex
      unfold gBoth at hx
      rw [Bool.and_eq_true] at hx
      have := nxP_lt ok hx.1
      exact ⟨x, by omega, by rw [hx.1, hx.2]; rfl⟩
    · have : emptyB (gBoth (nxP s (stL s.vars n) s.rules.length) (memP l)) = true := empty_iff.2 fun x hx => by
        cases hg : gBoth (nxP s (stL s.vars n) s.rules.length) (memP l) x
        · rfl
        · exact absurd ⟨x, hx, hg⟩ hex
      rw [q] at this; cases this
  · simp only [Bool.not_true, Bool.false_eq_true, false_iff]
    rintro ⟨x, hx, hx2⟩
    rw [Bool.and_eq_true] at hx2
    have := empty_iff.1 q x (by omega)
    unfold gBoth at this
    rw [hx2.1, hx2.2] at this
    cases this

end Go.Proofs.YtfgjogmgcamfdaaDoor
