/- Diagrams: where one goes from a place, in the model. -/
import Derived.Test.YtnhjcokmajejcaaDoorDgT
namespace Go.Proofs.YtnhjcokmajejcaaDoor
open Go.RowKit
set_option maxRecDepth 100000

end Go.Proofs.YtnhjcokmajejcaaDoor
