/-
  DERIVED. GIVEN WITH THE SEED: THE CARDS: each row of YtnhjcokmajejcaaDoorRows.lean that lists a variable, with what it lists TIED to the program's text (the seventh form; the later family's looks); each row that meets fmt, with fmt's text TOLD by the authors' own Lean function (tested against real Go, not proved from fmt's source: count such statements apart). THE CARD IS WHAT COUNTS. Prove the row's statement (the work); the ties are given (YtnhjcokmajejcaaDoorTie.lean); close each card by the builder's one call (the guide's Derived/Test/ToyasCard.lean, 'card_holds'). Laid BY PROGRAM, IN A SANDBOX (cutbox-door.mjs). By AI agents, Wed Nov 11 2026. No macro, syntax, notation, axiom, sorry.
-/
import Derived.Test.YtnhjcokmajejcaaDoorRows
import GoSem.ClaimSeven
namespace Go.Proofs.YtnhjcokmajejcaaDoor
namespace Rows

/-- THE TIED CARD OF 'laws.FnExactSameEdges'. -/
def fnExactSameEdgesCard : Claim7 := { stood := { row := fnExactSameEdgesRow, standIns := [], harness := (true, "8762bc7396d5d5f267d278e61bde91c252d5ed9a07c3e937f9d513003ac2ef5f"), looks := false }, kinds := [], alts := [], laidByText := true, laidKinds := [.data], laidTests := true, laidLooks := .later }
def FnExactSameEdgesCardSaid : Prop := Claim7.holds Tryd.pinned (.plain (OpenSpec.ofChange fnExactSameEdgesSpec)) fnExactSameEdgesCard

/-- THE TIED CARD OF 'laws.FnExactDiagramOf'. -/
def fnExactDiagramOfCard : Claim7 := { stood := { row := fnExactDiagramOfRow, standIns := [], harness := (true, "8762bc7396d5d5f267d278e61bde91c252d5ed9a07c3e937f9d513003ac2ef5f"), looks := false }, kinds := [], alts := [], laidByText := true, laidKinds := [.data], laidTests := true, laidLooks := .later }
def FnExactDiagramOfCardSaid : Prop := Claim7.holds Tryd.pinned (.plain (OpenSpec.ofChange fnExactDiagramOfSpec)) fnExactDiagramOfCard

/-- THE TIED CARD OF 'laws.FnExactReordered'. -/
def fnExactReorderedCard : Claim7 := { stood := { row := fnExactReorderedRow, standIns := [], harness := (true, "8762bc7396d5d5f267d278e61bde91c252d5ed9a07c3e937f9d513003ac2ef5f"), looks := false }, kinds := [], alts := [], laidByText := true, laidKinds := [.data], laidTests := true, laidLooks := .later }
def FnExactReorderedCardSaid : Prop := Claim7.holds Tryd.pinned (.plain (OpenSpec.ofChange fnExactReorderedSpec)) fnExactReorderedCard

/-- THE TIED CARD OF 'laws.FnExactSwapOrder'. -/
def fnExactSwapOrderCard : Claim7 := { stood := { row := fnExactSwapOrderRow, standIns := [], harness := (true, "8762bc7396d5d5f267d278e61bde91c252d5ed9a07c3e937f9d513003ac2ef5f"), looks := false }, kinds := [], alts := [], laidByText := true, laidKinds := [.data], laidTests := true, laidLooks := .later }
def FnExactSwapOrderCardSaid : Prop := Claim7.holds Tryd.pinned (.plain (OpenSpec.ofChange fnExactSwapOrderSpec)) fnExactSwapOrderCard

/-- THE SECOND FORM's CARD OF 'laws.FnExactSameEdges'. -/
def fnExactSameEdgesUptoCard : Claim7 := { stood := { row := fnExactSameEdgesUptoRow, standIns := [], harness := (true, "8762bc7396d5d5f267d278e61bde91c252d5ed9a07c3e937f9d513003ac2ef5f"), looks := false }, kinds := [], alts := [], laidByText := true, laidKinds := [.data], laidTests := true, laidLooks := .later }
def FnExactSameEdgesUptoCardSaid : Prop := Claim7.holds Tryd.pinned (.plain (OpenSpec.upto fnExactSameEdgesSpec)) fnExactSameEdgesUptoCard

/-- THE SECOND FORM's CARD OF 'laws.FnExactDiagramOf'. -/
def fnExactDiagramOfUptoCard : Claim7 := { stood := { row := fnExactDiagramOfUptoRow, standIns := [], harness := (true, "8762bc7396d5d5f267d278e61bde91c252d5ed9a07c3e937f9d513003ac2ef5f"), looks := false }, kinds := [], alts := [], laidByText := true, laidKinds := [.data], laidTests := true, laidLooks := .later }
def FnExactDiagramOfUptoCardSaid : Prop := Claim7.holds Tryd.pinned (.plain (OpenSpec.upto fnExactDiagramOfSpec)) fnExactDiagramOfUptoCard

/-- THE SECOND FORM's CARD OF 'laws.FnExactReordered'. -/
def fnExactReorderedUptoCard : Claim7 := { stood := { row := fnExactReorderedUptoRow, standIns := [], harness := (true, "8762bc7396d5d5f267d278e61bde91c252d5ed9a07c3e937f9d513003ac2ef5f"), looks := false }, kinds := [], alts := [], laidByText := true, laidKinds := [.data], laidTests := true, laidLooks := .later }
def FnExactReorderedUptoCardSaid : Prop := Claim7.holds Tryd.pinned (.plain (OpenSpec.upto fnExactReorderedSpec)) fnExactReorderedUptoCard

/-- THE SECOND FORM's CARD OF 'laws.FnExactSwapOrder'. -/
def fnExactSwapOrderUptoCard : Claim7 := { stood := { row := fnExactSwapOrderUptoRow, standIns := [], harness := (true, "8762bc7396d5d5f267d278e61bde91c252d5ed9a07c3e937f9d513003ac2ef5f"), looks := false }, kinds := [], alts := [], laidByText := true, laidKinds := [.data], laidTests := true, laidLooks := .later }
def FnExactSwapOrderUptoCardSaid : Prop := Claim7.holds Tryd.pinned (.plain (OpenSpec.upto fnExactSwapOrderSpec)) fnExactSwapOrderUptoCard
end Rows
end Go.Proofs.YtnhjcokmajejcaaDoor
