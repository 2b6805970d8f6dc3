/- Systems: the program's SizeOf, FirstState, InRange. -/
import Derived.Test.YtmlhnnkdecabpaaDoorSysE
import Derived.Test.YtmlhnnkdecabpaaDoorApp
namespace Go.Proofs.YtmlhnnkdecabpaaDoor
open Go.RowKit


/-- The first values. -/
def firsts (l : List Vr) : List Int := l.map Vr.first
def firstB (s : Sy) : List Int := if sysB s then firsts s.vars else []
theorem firsts_succ {l : List Vr} {k : Nat} (h : k < l.length) : firsts (l.take (k + 1)) = firsts (l.take k) ++ [(el l k).first] := by
  unfold firsts; rw [take_el h, List.map_append]; rfl
theorem firsts_len (l : List Vr) : (firsts l).length = l.length := by simp [firsts]

end Go.Proofs.YtmlhnnkdecabpaaDoor
