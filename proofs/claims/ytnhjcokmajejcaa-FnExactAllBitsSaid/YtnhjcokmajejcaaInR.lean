/- Systems: states in range, of the program and of the model. -/
import Derived.Test.YtnhjcokmajejcaaSysH
namespace Go.Proofs.Ytnhjcokmajejcaa
open Go.RowKit

/-- Whether numbers are values of the variables. -/
def hasB (l : List Vr) (st : List Int) : Bool := decide (st.length = l.length) && allTo (fun i => inB (ix st i) (el l i).low (el l i).high) l.length
def inRangeB (s : Sy) (st : List Int) : Bool := sysB s && hasB s.vars st
theorem hasB_len {l : List Vr} {st : List Int} (h : st.length ≠ l.length) : hasB l st = false := by unfold hasB; rw [decide_eq_false h]; rfl
theorem hasB_all {l : List Vr} {st : List Int} (h : st.length = l.length) : hasB l st = allTo (fun i => inB (ix st i) (el l i).low (el l i).high) l.length := by unfold hasB; rw [decide_eq_true h]; rfl

end Go.Proofs.Ytnhjcokmajejcaa
