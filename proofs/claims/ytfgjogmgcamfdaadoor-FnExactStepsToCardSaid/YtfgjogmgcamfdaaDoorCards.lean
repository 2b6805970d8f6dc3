/-
  DERIVED. GIVEN WITH THE SEED: THE CARDS: each row of YtfgjogmgcamfdaaDoorRows.lean that lists a variable, with what it lists TIED to the program's text (the seventh form; the later family's looks); each row that meets fmt, with fmt's text TOLD by the authors' own Lean function (tested against real Go, not proved from fmt's source: count such statements apart). THE CARD IS WHAT COUNTS. Prove the row's statement (the work); the ties are given (YtfgjogmgcamfdaaDoorTie.lean); close each card by the builder's one call (the guide's Derived/Test/ToyasCard.lean, 'card_holds'). Laid BY PROGRAM, IN A SANDBOX (cutbox-door.mjs). By AI agents, Wed Nov 11 2026. No macro, syntax, notation, axiom, sorry.
-/
import Derived.Test.YtfgjogmgcamfdaaDoorRows
import GoSem.ClaimSeven
namespace Go.Proofs.YtfgjogmgcamfdaaDoor
namespace Rows

/-- THE TIED CARD OF 'laws.FnExactStatesWhere'. -/
def fnExactStatesWhereCard : Claim7 := { stood := { row := fnExactStatesWhereRow, standIns := [], harness := (true, "2900f05bbca3a30f96cb0985e7847bd9ce298967fce17639ba38a6d6b03bcd31"), looks := false }, kinds := [], alts := [], laidByText := true, laidKinds := [.data], laidTests := true, laidLooks := .later }
def FnExactStatesWhereCardSaid : Prop := Claim7.holds Tryd.pinned (.plain (OpenSpec.ofChange fnExactStatesWhereSpec)) fnExactStatesWhereCard

/-- THE TIED CARD OF 'laws.FnExactStepsTo'. -/
def fnExactStepsToCard : Claim7 := { stood := { row := fnExactStepsToRow, standIns := [], harness := (true, "2900f05bbca3a30f96cb0985e7847bd9ce298967fce17639ba38a6d6b03bcd31"), looks := false }, kinds := [], alts := [], laidByText := true, laidKinds := [.data], laidTests := true, laidLooks := .later }
def FnExactStepsToCardSaid : Prop := Claim7.holds Tryd.pinned (.plain (OpenSpec.ofChange fnExactStepsToSpec)) fnExactStepsToCard

/-- THE TIED CARD OF 'laws.FnExactClosed'. -/
def fnExactClosedCard : Claim7 := { stood := { row := fnExactClosedRow, standIns := [], harness := (true, "2900f05bbca3a30f96cb0985e7847bd9ce298967fce17639ba38a6d6b03bcd31"), looks := false }, kinds := [], alts := [], laidByText := true, laidKinds := [.data], laidTests := true, laidLooks := .later }
def FnExactClosedCardSaid : Prop := Claim7.holds Tryd.pinned (.plain (OpenSpec.ofChange fnExactClosedSpec)) fnExactClosedCard

/-- THE SECOND FORM's CARD OF 'laws.FnExactStatesWhere'. -/
def fnExactStatesWhereUptoCard : Claim7 := { stood := { row := fnExactStatesWhereUptoRow, standIns := [], harness := (true, "2900f05bbca3a30f96cb0985e7847bd9ce298967fce17639ba38a6d6b03bcd31"), looks := false }, kinds := [], alts := [], laidByText := true, laidKinds := [.data], laidTests := true, laidLooks := .later }
def FnExactStatesWhereUptoCardSaid : Prop := Claim7.holds Tryd.pinned (.plain (OpenSpec.upto fnExactStatesWhereSpec)) fnExactStatesWhereUptoCard

/-- THE SECOND FORM's CARD OF 'laws.FnExactStepsTo'. -/
def fnExactStepsToUptoCard : Claim7 := { stood := { row := fnExactStepsToUptoRow, standIns := [], harness := (true, "2900f05bbca3a30f96cb0985e7847bd9ce298967fce17639ba38a6d6b03bcd31"), looks := false }, kinds := [], alts := [], laidByText := true, laidKinds := [.data], laidTests := true, laidLooks := .later }
def FnExactStepsToUptoCardSaid : Prop := Claim7.holds Tryd.pinned (.plain (OpenSpec.upto fnExactStepsToSpec)) fnExactStepsToUptoCard

/-- THE SECOND FORM's CARD OF 'laws.FnExactClosed'. -/
def fnExactClosedUptoCard : Claim7 := { stood := { row := fnExactClosedUptoRow, standIns := [], harness := (true, "2900f05bbca3a30f96cb0985e7847bd9ce298967fce17639ba38a6d6b03bcd31"), looks := false }, kinds := [], alts := [], laidByText := true, laidKinds := [.data], laidTests := true, laidLooks := .later }
def FnExactClosedUptoCardSaid : Prop := Claim7.holds Tryd.pinned (.plain (OpenSpec.upto fnExactClosedSpec)) fnExactClosedUptoCard
end Rows
end Go.Proofs.YtfgjogmgcamfdaaDoor
