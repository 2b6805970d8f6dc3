/- The word of a state: of the program. -/
import Derived.Test.YtffkdmaedojcjaaBitW
namespace Go.Proofs.Ytffkdmaedojcjaa
open Go.RowKit

end Go.Proofs.Ytffkdmaedojcjaa
