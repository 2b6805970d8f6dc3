/- Circuits: the values of all nodes, in the model. -/
import Derived.Test.YtnhjcokmajejcaaCiS
namespace Go.Proofs.Ytnhjcokmajejcaa
open Go.RowKit

end Go.Proofs.Ytnhjcokmajejcaa
