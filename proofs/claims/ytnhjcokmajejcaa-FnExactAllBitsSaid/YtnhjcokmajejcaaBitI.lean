/- Bits: the program's functions. -/
import Derived.Test.YtnhjcokmajejcaaBitR
import Derived.Test.YtnhjcokmajejcaaBitT
namespace Go.Proofs.Ytnhjcokmajejcaa
open Go.RowKit

end Go.Proofs.Ytnhjcokmajejcaa
