/- Diagrams: where one goes from a place, in the model. -/
import Derived.Test.YtnhjcokmajejcaaDgT
namespace Go.Proofs.Ytnhjcokmajejcaa
open Go.RowKit
set_option maxRecDepth 100000

end Go.Proofs.Ytnhjcokmajejcaa
