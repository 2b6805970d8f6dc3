/-
  DERIVED. GIVEN WITH THE SEED: THE CARDS: each row of YtfgjogmgcamfdaaGreatDoorRows.lean that lists a variable, with what it lists TIED to the program's text (the seventh form; the later family's looks); each row that meets fmt, with fmt's text TOLD by the authors' own Lean function (tested against real Go, not proved from fmt's source: count such statements apart). THE CARD IS WHAT COUNTS. Prove the row's statement (the work); the ties are given (YtfgjogmgcamfdaaGreatDoorTie.lean); close each card by the builder's one call (the guide's Derived/Test/ToyasCard.lean, 'card_holds'). Laid BY PROGRAM, IN A SANDBOX (cutbox-door.mjs). By AI agents, Wed Nov 11 2026. No macro, syntax, notation, axiom, sorry.
-/
import Derived.Test.YtfgjogmgcamfdaaGreatDoorRows
import GoSem.ClaimSeven
namespace Go.Proofs.YtfgjogmgcamfdaaGreatDoor
namespace Rows

/-- THE TIED CARD OF 'laws.FnExactReachOf'. -/
def fnExactReachOfCard : Claim7 := { stood := { row := fnExactReachOfRow, standIns := [], harness := (true, "e042a31e65af24c4f7ac239d60126a3f057a489ff7bc03867ed348469e566d28"), looks := false }, kinds := [], alts := [], laidByText := true, laidKinds := [.data], laidTests := true, laidLooks := .later }
def FnExactReachOfCardSaid : Prop := Claim7.holds Tryz.pinned (.plain (OpenSpec.ofChange fnExactReachOfSpec)) fnExactReachOfCard

/-- THE TIED CARD OF 'laws.FnExactAlways'. -/
def fnExactAlwaysCard : Claim7 := { stood := { row := fnExactAlwaysRow, standIns := [], harness := (true, "e042a31e65af24c4f7ac239d60126a3f057a489ff7bc03867ed348469e566d28"), looks := false }, kinds := [], alts := [], laidByText := true, laidKinds := [.data], laidTests := true, laidLooks := .later }
def FnExactAlwaysCardSaid : Prop := Claim7.holds Tryz.pinned (.plain (OpenSpec.ofChange fnExactAlwaysSpec)) fnExactAlwaysCard

/-- THE TIED CARD OF 'laws.FnExactProves'. -/
def fnExactProvesCard : Claim7 := { stood := { row := fnExactProvesRow, standIns := [], harness := (true, "e042a31e65af24c4f7ac239d60126a3f057a489ff7bc03867ed348469e566d28"), looks := false }, kinds := [], alts := [], laidByText := true, laidKinds := [.data], laidTests := true, laidLooks := .later }
def FnExactProvesCardSaid : Prop := Claim7.holds Tryz.pinned (.plain (OpenSpec.ofChange fnExactProvesSpec)) fnExactProvesCard

/-- THE TIED CARD OF 'laws.FnExactCanReach'. -/
def fnExactCanReachCard : Claim7 := { stood := { row := fnExactCanReachRow, standIns := [], harness := (true, "e042a31e65af24c4f7ac239d60126a3f057a489ff7bc03867ed348469e566d28"), looks := false }, kinds := [], alts := [], laidByText := true, laidKinds := [.data], laidTests := true, laidLooks := .later }
def FnExactCanReachCardSaid : Prop := Claim7.holds Tryz.pinned (.plain (OpenSpec.ofChange fnExactCanReachSpec)) fnExactCanReachCard

/-- THE TIED CARD OF 'laws.FnExactStuckStates'. -/
def fnExactStuckStatesCard : Claim7 := { stood := { row := fnExactStuckStatesRow, standIns := [], harness := (true, "e042a31e65af24c4f7ac239d60126a3f057a489ff7bc03867ed348469e566d28"), looks := false }, kinds := [], alts := [], laidByText := true, laidKinds := [.data], laidTests := true, laidLooks := .later }
def FnExactStuckStatesCardSaid : Prop := Claim7.holds Tryz.pinned (.plain (OpenSpec.ofChange fnExactStuckStatesSpec)) fnExactStuckStatesCard

/-- THE SECOND FORM's CARD OF 'laws.FnExactReachOf'. -/
def fnExactReachOfUptoCard : Claim7 := { stood := { row := fnExactReachOfUptoRow, standIns := [], harness := (true, "e042a31e65af24c4f7ac239d60126a3f057a489ff7bc03867ed348469e566d28"), looks := false }, kinds := [], alts := [], laidByText := true, laidKinds := [.data], laidTests := true, laidLooks := .later }
def FnExactReachOfUptoCardSaid : Prop := Claim7.holds Tryz.pinned (.plain (OpenSpec.upto fnExactReachOfSpec)) fnExactReachOfUptoCard

/-- THE SECOND FORM's CARD OF 'laws.FnExactAlways'. -/
def fnExactAlwaysUptoCard : Claim7 := { stood := { row := fnExactAlwaysUptoRow, standIns := [], harness := (true, "e042a31e65af24c4f7ac239d60126a3f057a489ff7bc03867ed348469e566d28"), looks := false }, kinds := [], alts := [], laidByText := true, laidKinds := [.data], laidTests := true, laidLooks := .later }
def FnExactAlwaysUptoCardSaid : Prop := Claim7.holds Tryz.pinned (.plain (OpenSpec.upto fnExactAlwaysSpec)) fnExactAlwaysUptoCard

/-- THE SECOND FORM's CARD OF 'laws.FnExactProves'. -/
def fnExactProvesUptoCard : Claim7 := { stood := { row := fnExactProvesUptoRow, standIns := [], harness := (true, "e042a31e65af24c4f7ac239d60126a3f057a489ff7bc03867ed348469e566d28"), looks := false }, kinds := [], alts := [], laidByText := true, laidKinds := [.data], laidTests := true, laidLooks := .later }
def FnExactProvesUptoCardSaid : Prop := Claim7.holds Tryz.pinned (.plain (OpenSpec.upto fnExactProvesSpec)) fnExactProvesUptoCard

/-- THE SECOND FORM's CARD OF 'laws.FnExactCanReach'. -/
def fnExactCanReachUptoCard : Claim7 := { stood := { row := fnExactCanReachUptoRow, standIns := [], harness := (true, "e042a31e65af24c4f7ac239d60126a3f057a489ff7bc03867ed348469e566d28"), looks := false }, kinds := [], alts := [], laidByText := true, laidKinds := [.data], laidTests := true, laidLooks := .later }
def FnExactCanReachUptoCardSaid : Prop := Claim7.holds Tryz.pinned (.plain (OpenSpec.upto fnExactCanReachSpec)) fnExactCanReachUptoCard

/-- THE SECOND FORM's CARD OF 'laws.FnExactStuckStates'. -/
def fnExactStuckStatesUptoCard : Claim7 := { stood := { row := fnExactStuckStatesUptoRow, standIns := [], harness := (true, "e042a31e65af24c4f7ac239d60126a3f057a489ff7bc03867ed348469e566d28"), looks := false }, kinds := [], alts := [], laidByText := true, laidKinds := [.data], laidTests := true, laidLooks := .later }
def FnExactStuckStatesUptoCardSaid : Prop := Claim7.holds Tryz.pinned (.plain (OpenSpec.upto fnExactStuckStatesSpec)) fnExactStuckStatesUptoCard
end Rows
end Go.Proofs.YtfgjogmgcamfdaaGreatDoor
