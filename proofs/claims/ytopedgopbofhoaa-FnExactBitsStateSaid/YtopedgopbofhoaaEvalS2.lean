/- The model's Eval, whole. -/
import Derived.Test.YtopedgopbofhoaaEvalB
import Derived.Test.YtopedgopbofhoaaIntApp
namespace Go.Proofs.Ytopedgopbofhoaa
open Go.RowKit

end Go.Proofs.Ytopedgopbofhoaa
namespace Go.Proofs.Ytopedgopbofhoaa
open Go.RowKit

end Go.Proofs.Ytopedgopbofhoaa
