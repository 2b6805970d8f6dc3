/- The model's Eval, whole. -/
import Derived.Test.YtffkdmaedojcjaaEvalB
import Derived.Test.YtffkdmaedojcjaaIntApp
namespace Go.Proofs.Ytffkdmaedojcjaa
open Go.RowKit

end Go.Proofs.Ytffkdmaedojcjaa
namespace Go.Proofs.Ytffkdmaedojcjaa
open Go.RowKit

end Go.Proofs.Ytffkdmaedojcjaa
