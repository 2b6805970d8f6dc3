/- The model's Eval, whole. -/
import Derived.Test.YtdecjkfokilgoaaDoorEvalB
import Derived.Test.YtdecjkfokilgoaaDoorIntApp
namespace Go.Proofs.YtdecjkfokilgoaaDoor
open Go.RowKit

end Go.Proofs.YtdecjkfokilgoaaDoor
namespace Go.Proofs.YtdecjkfokilgoaaDoor
open Go.RowKit

end Go.Proofs.YtdecjkfokilgoaaDoor
