/- Circuits: the values of all nodes, in the model. -/
import Derived.Test.YthlkbkomecnbaaaCiS
namespace Go.Proofs.Ythlkbkomecnbaaa
open Go.RowKit

end Go.Proofs.Ythlkbkomecnbaaa
