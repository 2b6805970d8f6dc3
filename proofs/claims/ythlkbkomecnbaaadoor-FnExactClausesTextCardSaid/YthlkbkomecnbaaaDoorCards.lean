/-
  DERIVED. GIVEN WITH THE SEED: THE CARDS: each row of YthlkbkomecnbaaaDoorRows.lean that lists a variable, with what it lists TIED to the program's text (the seventh form; the later family's looks); each row that meets fmt, with fmt's text TOLD by the authors' own Lean function (tested against real Go, not proved from fmt's source: count such statements apart). THE CARD IS WHAT COUNTS. Prove the row's statement (the work); the ties are given (YthlkbkomecnbaaaDoorTie.lean); close each card by the builder's one call (the guide's Derived/Test/ToyasCard.lean, 'card_holds'). Laid BY PROGRAM, IN A SANDBOX (cutbox-door.mjs). By AI agents, Wed Nov 11 2026. No macro, syntax, notation, axiom, sorry.
-/
import Derived.Test.YthlkbkomecnbaaaDoorRows
import GoSem.ClaimSeven
namespace Go.Proofs.YthlkbkomecnbaaaDoor
namespace Rows

/-- THE TIED CARD OF 'laws.FnExactClausesText'. -/
def fnExactClausesTextCard : Claim7 := { stood := { row := fnExactClausesTextRow, standIns := [], harness := (true, "db93169dcba33afa0c570684262c612870a1b1a06fcb13d33b197f2963220c2b"), looks := false }, kinds := [], alts := [], laidByText := true, laidKinds := [.data, .data, .data], laidTests := true, laidLooks := .later }
def FnExactClausesTextCardSaid : Prop := Claim7.holds Tryd.pinned (.plain (OpenSpec.ofChange fnExactClausesTextSpec)) fnExactClausesTextCard

/-- THE SECOND FORM's CARD OF 'laws.FnExactClausesText'. -/
def fnExactClausesTextUptoCard : Claim7 := { stood := { row := fnExactClausesTextUptoRow, standIns := [], harness := (true, "db93169dcba33afa0c570684262c612870a1b1a06fcb13d33b197f2963220c2b"), looks := false }, kinds := [], alts := [], laidByText := true, laidKinds := [.data, .data, .data], laidTests := true, laidLooks := .later }
def FnExactClausesTextUptoCardSaid : Prop := Claim7.holds Tryd.pinned (.plain (OpenSpec.upto fnExactClausesTextSpec)) fnExactClausesTextUptoCard
end Rows
end Go.Proofs.YthlkbkomecnbaaaDoor
