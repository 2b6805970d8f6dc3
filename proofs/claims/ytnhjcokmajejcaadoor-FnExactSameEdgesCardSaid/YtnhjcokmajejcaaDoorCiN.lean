/- Circuits: NodeValues and EdgeValue, in the model and in the program. -/
import Derived.Test.YtnhjcokmajejcaaDoorCiW
namespace Go.Proofs.YtnhjcokmajejcaaDoor
open Go.RowKit

theorem gives_nil {w w' : World} (b : Below w.heap.size w w') : GivesL w ([] : List Int) (.returned (.slice none 0 0)) w' := ⟨none, 0, 0, [], rfl, own_none w', List.nodup_nil, by simp, b⟩

end Go.Proofs.YtnhjcokmajejcaaDoor
