/- The model's Eval, whole. -/
import Derived.Test.YtnhjcokmajejcaaEvalB
import Derived.Test.YtnhjcokmajejcaaIntApp
namespace Go.Proofs.Ytnhjcokmajejcaa
open Go.RowKit

end Go.Proofs.Ytnhjcokmajejcaa
namespace Go.Proofs.Ytnhjcokmajejcaa
open Go.RowKit

end Go.Proofs.Ytnhjcokmajejcaa
