/-
  DERIVED. GIVEN WITH THE SEED: THE CARDS: each row of YtmlhnnkdecabpaaDoorRows.lean that lists a variable, with what it lists TIED to the program's text (the seventh form; the later family's looks); each row that meets fmt, with fmt's text TOLD by the authors' own Lean function (tested against real Go, not proved from fmt's source: count such statements apart). THE CARD IS WHAT COUNTS. Prove the row's statement (the work); the ties are given (YtmlhnnkdecabpaaDoorTie.lean); close each card by the builder's one call (the guide's Derived/Test/ToyasCard.lean, 'card_holds'). Laid BY PROGRAM, IN A SANDBOX (cutbox-door.mjs). By AI agents, Wed Nov 11 2026. No macro, syntax, notation, axiom, sorry.
-/
import Derived.Test.YtmlhnnkdecabpaaDoorRows
import GoSem.ClaimSeven
namespace Go.Proofs.YtmlhnnkdecabpaaDoor
namespace Rows

/-- THE TIED CARD OF 'laws.FnExactStatesWhere'. -/
def fnExactStatesWhereCard : Claim7 := { stood := { row := fnExactStatesWhereRow, standIns := [], harness := (true, "9b5a0857463d2c3c15581804c867b7fba93ab22c4fc80de7abcbb8e4b294123c"), looks := false }, kinds := [], alts := [], laidByText := true, laidKinds := [.data], laidTests := true, laidLooks := .later }
def FnExactStatesWhereCardSaid : Prop := Claim7.holds Tryd.pinned (.plain (OpenSpec.ofChange fnExactStatesWhereSpec)) fnExactStatesWhereCard

/-- THE TIED CARD OF 'laws.FnExactNextNumbers'. -/
def fnExactNextNumbersCard : Claim7 := { stood := { row := fnExactNextNumbersRow, standIns := [], harness := (true, "9b5a0857463d2c3c15581804c867b7fba93ab22c4fc80de7abcbb8e4b294123c"), looks := false }, kinds := [], alts := [], laidByText := true, laidKinds := [.data], laidTests := true, laidLooks := .later }
def FnExactNextNumbersCardSaid : Prop := Claim7.holds Tryd.pinned (.plain (OpenSpec.ofChange fnExactNextNumbersSpec)) fnExactNextNumbersCard

/-- THE TIED CARD OF 'laws.FnExactPastNumbers'. -/
def fnExactPastNumbersCard : Claim7 := { stood := { row := fnExactPastNumbersRow, standIns := [], harness := (true, "9b5a0857463d2c3c15581804c867b7fba93ab22c4fc80de7abcbb8e4b294123c"), looks := false }, kinds := [], alts := [], laidByText := true, laidKinds := [.data], laidTests := true, laidLooks := .later }
def FnExactPastNumbersCardSaid : Prop := Claim7.holds Tryd.pinned (.plain (OpenSpec.ofChange fnExactPastNumbersSpec)) fnExactPastNumbersCard

/-- THE TIED CARD OF 'laws.FnExactSetBoth'. -/
def fnExactSetBothCard : Claim7 := { stood := { row := fnExactSetBothRow, standIns := [], harness := (true, "9b5a0857463d2c3c15581804c867b7fba93ab22c4fc80de7abcbb8e4b294123c"), looks := false }, kinds := [], alts := [], laidByText := true, laidKinds := [.data], laidTests := true, laidLooks := .later }
def FnExactSetBothCardSaid : Prop := Claim7.holds Tryd.pinned (.plain (OpenSpec.ofChange fnExactSetBothSpec)) fnExactSetBothCard

/-- THE TIED CARD OF 'laws.FnExactSetEither'. -/
def fnExactSetEitherCard : Claim7 := { stood := { row := fnExactSetEitherRow, standIns := [], harness := (true, "9b5a0857463d2c3c15581804c867b7fba93ab22c4fc80de7abcbb8e4b294123c"), looks := false }, kinds := [], alts := [], laidByText := true, laidKinds := [.data], laidTests := true, laidLooks := .later }
def FnExactSetEitherCardSaid : Prop := Claim7.holds Tryd.pinned (.plain (OpenSpec.ofChange fnExactSetEitherSpec)) fnExactSetEitherCard

/-- THE TIED CARD OF 'laws.FnExactSetWithout'. -/
def fnExactSetWithoutCard : Claim7 := { stood := { row := fnExactSetWithoutRow, standIns := [], harness := (true, "9b5a0857463d2c3c15581804c867b7fba93ab22c4fc80de7abcbb8e4b294123c"), looks := false }, kinds := [], alts := [], laidByText := true, laidKinds := [.data], laidTests := true, laidLooks := .later }
def FnExactSetWithoutCardSaid : Prop := Claim7.holds Tryd.pinned (.plain (OpenSpec.ofChange fnExactSetWithoutSpec)) fnExactSetWithoutCard

/-- THE SECOND FORM's CARD OF 'laws.FnExactStatesWhere'. -/
def fnExactStatesWhereUptoCard : Claim7 := { stood := { row := fnExactStatesWhereUptoRow, standIns := [], harness := (true, "9b5a0857463d2c3c15581804c867b7fba93ab22c4fc80de7abcbb8e4b294123c"), looks := false }, kinds := [], alts := [], laidByText := true, laidKinds := [.data], laidTests := true, laidLooks := .later }
def FnExactStatesWhereUptoCardSaid : Prop := Claim7.holds Tryd.pinned (.plain (OpenSpec.upto fnExactStatesWhereSpec)) fnExactStatesWhereUptoCard

/-- THE SECOND FORM's CARD OF 'laws.FnExactNextNumbers'. -/
def fnExactNextNumbersUptoCard : Claim7 := { stood := { row := fnExactNextNumbersUptoRow, standIns := [], harness := (true, "9b5a0857463d2c3c15581804c867b7fba93ab22c4fc80de7abcbb8e4b294123c"), looks := false }, kinds := [], alts := [], laidByText := true, laidKinds := [.data], laidTests := true, laidLooks := .later }
def FnExactNextNumbersUptoCardSaid : Prop := Claim7.holds Tryd.pinned (.plain (OpenSpec.upto fnExactNextNumbersSpec)) fnExactNextNumbersUptoCard

/-- THE SECOND FORM's CARD OF 'laws.FnExactPastNumbers'. -/
def fnExactPastNumbersUptoCard : Claim7 := { stood := { row := fnExactPastNumbersUptoRow, standIns := [], harness := (true, "9b5a0857463d2c3c15581804c867b7fba93ab22c4fc80de7abcbb8e4b294123c"), looks := false }, kinds := [], alts := [], laidByText := true, laidKinds := [.data], laidTests := true, laidLooks := .later }
def FnExactPastNumbersUptoCardSaid : Prop := Claim7.holds Tryd.pinned (.plain (OpenSpec.upto fnExactPastNumbersSpec)) fnExactPastNumbersUptoCard

/-- THE SECOND FORM's CARD OF 'laws.FnExactSetBoth'. -/
def fnExactSetBothUptoCard : Claim7 := { stood := { row := fnExactSetBothUptoRow, standIns := [], harness := (true, "9b5a0857463d2c3c15581804c867b7fba93ab22c4fc80de7abcbb8e4b294123c"), looks := false }, kinds := [], alts := [], laidByText := true, laidKinds := [.data], laidTests := true, laidLooks := .later }
def FnExactSetBothUptoCardSaid : Prop := Claim7.holds Tryd.pinned (.plain (OpenSpec.upto fnExactSetBothSpec)) fnExactSetBothUptoCard

/-- THE SECOND FORM's CARD OF 'laws.FnExactSetEither'. -/
def fnExactSetEitherUptoCard : Claim7 := { stood := { row := fnExactSetEitherUptoRow, standIns := [], harness := (true, "9b5a0857463d2c3c15581804c867b7fba93ab22c4fc80de7abcbb8e4b294123c"), looks := false }, kinds := [], alts := [], laidByText := true, laidKinds := [.data], laidTests := true, laidLooks := .later }
def FnExactSetEitherUptoCardSaid : Prop := Claim7.holds Tryd.pinned (.plain (OpenSpec.upto fnExactSetEitherSpec)) fnExactSetEitherUptoCard

/-- THE SECOND FORM's CARD OF 'laws.FnExactSetWithout'. -/
def fnExactSetWithoutUptoCard : Claim7 := { stood := { row := fnExactSetWithoutUptoRow, standIns := [], harness := (true, "9b5a0857463d2c3c15581804c867b7fba93ab22c4fc80de7abcbb8e4b294123c"), looks := false }, kinds := [], alts := [], laidByText := true, laidKinds := [.data], laidTests := true, laidLooks := .later }
def FnExactSetWithoutUptoCardSaid : Prop := Claim7.holds Tryd.pinned (.plain (OpenSpec.upto fnExactSetWithoutSpec)) fnExactSetWithoutUptoCard
end Rows
end Go.Proofs.YtmlhnnkdecabpaaDoor
