/- Systems: the model's rules. -/
import Derived.Test.YtffkdmaedojcjaaSysB
import Derived.Deep.RegionHeld3
import Derived.IntWalk
namespace Go.Proofs.Ytffkdmaedojcjaa
open Go.RowKit

theorem setsB_long {l : List Int} {vars : Int} (h : setsB l vars = true) : (l.length : Int) ≤ vars ∨ l.length = 0 := by
  unfold setsB at h
  rcases Nat.eq_zero_or_pos l.length with h0 | h0
  · exact .inr h0
  · have := asc_at h (l.length - 1) (by omega)
    exact .inl (by omega)
/-- What the model's rule tests at a place. -/
theorem asc_spec {l : List Int} {vars : Int} {k : Nat} (h : allTo (ascOk l vars) k = true) : ascOk l vars k = (inB (ix l k) 0 (vars - 1) && (decide (k = 0) || decide (ix l (k - 1) < ix l k))) := by
  apply bool_iff
  unfold ascOk inB
  cases k with
  | zero => have e : lo l 0 = 0 := rfl
            rw [e]; simp; omega
  | succ k =>
    have := asc_at h k (by omega)
    have e : lo l (k + 1) = ix l k + 1 := rfl
    rw [e]
    simp; omega

end Go.Proofs.Ytffkdmaedojcjaa
