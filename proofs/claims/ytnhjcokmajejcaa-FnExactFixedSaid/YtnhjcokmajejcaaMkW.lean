/- Circuits that are made: copies, in the model. -/
import Derived.Test.YtnhjcokmajejcaaMkV
namespace Go.Proofs.Ytnhjcokmajejcaa
open Go.RowKit
set_option maxRecDepth 100000

theorem take_ga {l : List Ga} {k : Nat} (h : k < l.length) : l.take (k + 1) = l.take k ++ [el l k] := take_el h

end Go.Proofs.Ytnhjcokmajejcaa
