/- Use, of the program. -/
import Derived.Test.YtdecjkfokilgoaaUseIm
import Derived.Deep.RegionHeld3
namespace Go.Proofs.Ytdecjkfokilgoaa
open Go.RowKit

def useOut (s : Sy) (st : List Int) (r : Int) : List Int := if inRangeB s st && ruleIn s r then useL s st r.toNat else []
def useOk (s : Sy) (st : List Int) (r : Int) : Bool := decide (0 < (useOut s st r).length)
theorem useR_len (R : Rl) (l : List Vr) (st : List Int) : (useR R l st).length = 0 ∨ (useR R l st).length = st.length := by
  unfold useR
  by_cases h : valB R.cond st = 0
  · rw [if_pos h]; exact .inl rfl
  · rw [if_neg h]
    by_cases h2 : hasB l (madeTo R st R.sets.length) = true
    · rw [if_pos h2]; exact .inr (len_made _ _ _)
    · rw [if_neg h2]; exact .inl rfl
theorem useL_len (s : Sy) (st : List Int) (r : Nat) : (useL s st r).length = 0 ∨ (useL s st r).length = st.length := useR_len _ _ _
theorem inRange_parts {s : Sy} {st : List Int} (h : inRangeB s st = true) : SysOk s ∧ hasB s.vars st = true := by
  unfold inRangeB at h
  simp only [Bool.and_eq_true] at h
  exact ⟨sysOk_of h.1, h.2⟩
theorem useOut_len (s : Sy) (st : List Int) (r : Int) : (useOut s st r).length ≤ 1000000 := by
  unfold useOut
  cases h : inRangeB s st && ruleIn s r
  · simp
  · simp only [Bool.and_eq_true] at h
    obtain ⟨ok, hin⟩ := inRange_parts h.1
    have := has_len hin
    have := ok.hi
    rw [if_pos rfl]
    rcases useL_len s st r.toNat with e | e <;> omega
end Go.Proofs.Ytdecjkfokilgoaa
namespace Go.Proofs.Ytdecjkfokilgoaa
open Go.RowKit

theorem six_far {w : World} {g : Nat} {a b c d e f v : Value} {p : Addr} (h : p.block ≠ g) (k : w.cell? p = some v) :
    ((((((w.setCell ⟨g, 0, none⟩ a).setCell ⟨g, 1, none⟩ b).setCell ⟨g, 2, none⟩ c).setCell ⟨g, 3, none⟩ d).setCell ⟨g, 4, none⟩ e).setCell ⟨g, 5, none⟩ f).cell? p = some v :=
  set_far h (set_far h (set_far h (set_far h (set_far h (set_far h k)))))

theorem bb_of {w W w6 : World} (_ : Below W.heap.size W w6) (h : Below w.heap.size w W) : Below w.heap.size w W := h
theorem six_below6 {B : Nat} {w0 w : World} {g : Nat} {a b c d e f : Value} (h : B ≤ g) (k : Below B w0 w) :
    Below B w0 ((((((w.setCell ⟨g, 0, none⟩ a).setCell ⟨g, 1, none⟩ b).setCell ⟨g, 2, none⟩ c).setCell ⟨g, 3, none⟩ d).setCell ⟨g, 4, none⟩ e).setCell ⟨g, 5, none⟩ f) :=
  (((((k.setCell h _).setCell h _).setCell h _).setCell h _).setCell h _).setCell h _

end Go.Proofs.Ytdecjkfokilgoaa
