/- How many bits variables have; the word of a state: of the program. -/
import Derived.Test.YtffkdmaedojcjaaBit
import Derived.Test.YtffkdmaedojcjaaBitL
import Derived.Test.YtffkdmaedojcjaaShelf
import Derived.Deep.RegionHeld3
namespace Go.Proofs.Ytffkdmaedojcjaa
open Go.RowKit

theorem len_wdt {z : Nat} (h0 : 1 ≤ z) (h1 : z ≤ 20) : Lib.bitLen (z - 1) = wdt (z : Int) := by
  have : ∀ u : Fin 20, Lib.bitLen u.val = wdt ((u.val + 1 : Nat) : Int) := by decide +kernel
  have h := this ⟨z - 1, by omega⟩
  simp only [show z - 1 + 1 = z by omega] at h
  exact h

end Go.Proofs.Ytffkdmaedojcjaa
