/- Bits: of the model. -/
import Derived.Test.YtffkdmaedojcjaaBit
import Derived.Test.YtffkdmaedojcjaaBitL
import Derived.Test.YtffkdmaedojcjaaInR
import Derived.Deep.RegionHeld3
namespace Go.Proofs.Ytffkdmaedojcjaa
open Go.RowKit

theorem widL_len (l : List Vr) : (widL l).length = l.length := by simp [widL]
theorem widL_ix {l : List Vr} {k : Nat} (h : k < l.length) : ix (widL l) k = (wdv (el l k) : Nat) := by
  unfold ix widL
  rw [List.getElem?_map, el_lt h, List.getElem?_eq_getElem h]; rfl
theorem widL_take {l : List Vr} {k : Nat} (h : k < l.length) : (widL l).take (k + 1) = (widL l).take k ++ [((wdv (el l k) : Nat) : Int)] := by
  have e : (widL l)[k]? = some ((wdv (el l k) : Nat) : Int) := by
    unfold widL
    rw [List.getElem?_map, el_lt h, List.getElem?_eq_getElem h]; rfl
  rw [List.take_add_one, e]; rfl

end Go.Proofs.Ytffkdmaedojcjaa
