/- Systems: the model's SizeOf and FirstState. -/
import Derived.Test.YtffkdmaedojcjaaSysE
import Derived.Test.YtffkdmaedojcjaaIntApp
import Derived.Test.YtffkdmaedojcjaaEqSy
import Derived.Test.YtffkdmaedojcjaaSysC
import Derived.Deep.RegionHeld3
namespace Go.Proofs.Ytffkdmaedojcjaa
open Go.RowKit

end Go.Proofs.Ytffkdmaedojcjaa
namespace Go.Proofs.Ytffkdmaedojcjaa
open Go.RowKit


/-- The first values. -/
def firsts (l : List Vr) : List Int := l.map Vr.first
def firstB (s : Sy) : List Int := if sysB s then firsts s.vars else []
theorem firsts_succ {l : List Vr} {k : Nat} (h : k < l.length) : firsts (l.take (k + 1)) = firsts (l.take k) ++ [(el l k).first] := by
  unfold firsts; rw [take_el h, List.map_append]; rfl
theorem firsts_len (l : List Vr) : (firsts l).length = l.length := by simp [firsts]

end Go.Proofs.Ytffkdmaedojcjaa
namespace Go.Proofs.Ytffkdmaedojcjaa
open Go.RowKit

theorem firstB_len (s : Sy) : (firstB s).length ≤ 1000000 := by
  unfold firstB
  split
  · rename_i h; have := sys_ok h; rw [firsts_len]; omega
  · simp
end Go.Proofs.Ytffkdmaedojcjaa
