/-
  NARROWER THAN 'FOR EVERY INPUT', by the rows' own cells (each row's printed sentence says how): FnExactStatesWhere: laid · FnExactNextNumbers: laid · FnExactPastNumbers: laid · FnExactSetBoth: laid · FnExactSetEither: laid · FnExactSetWithout: laid.
  DERIVED. THE GIVEN ROWS OF THIS SEAT. 6 by the template 'for every input the law returns true; each argument reads behind the call as it read before'; 0 by the template 'total and deterministic' (their statements: YtmlhnnkdecabpaaDoorTotals.lean).
  GIVEN WITH THE SEED: the statements are not yours to turn. If you find one false, say at which input.
  Laid BY PROGRAM, IN A SANDBOX (cutbox-rows.mjs): the forced cells as the released guide's own fill.sh prints them over the translation c44f54c90a94f2f3… (all of the seat's roots in one cut). By AI agents, Wed Nov 11 2026. No macro, syntax, notation, axiom, sorry.
-/
import Derived.Test.YtmlhnnkdecabpaaDoorChecked
import GoSem.Claim
import GoSem.ClaimJoined
import GoSem.ClaimMapViews
import Derived.JoinedTies
import Derived.KernelRfl
namespace Go.Proofs.YtmlhnnkdecabpaaDoor
/- THE CELL 'sum', in the pinned program and in every row, IS THE sha256 OF THE DUMP (.gsa) THAT YtmlhnnkdecabpaaDoorProg.lean LOADS. Nothing in Lean hashes anything: it is a label: what it is worth is what the hold of that sum in a sandbox is worth. -/
noncomputable def Tryd.pinned : Pinned := { name := "ytmlhnnkdecabpaadoor", sum := "c44f54c90a94f2f39c58e744ed77126a365679e1cc9cdc30c737213842578ba6", checked := Tryd.checked }
namespace Rows
def none {H : Type} : Left H := { results := [], args := [] }

/- WHAT THE LISTED PACKAGE-LEVEL VARIABLES READ AS WHEN THE CALL BEGINS. Each datum BY PROGRAM (the guide's laid-datum.mjs) off the statement by which the dump's own 'gosem.cut.vars' lays the variable. In a bare row this is a premise. The card (YtmlhnnkdecabpaaDoorCards.lean) ties it to the program's text. -/
def laid_math_bits_deBruijn64tab {H : Type} : DataW H := .agg [.lit (.int .u8 0), .lit (.int .u8 1), .lit (.int .u8 56), .lit (.int .u8 2), .lit (.int .u8 57), .lit (.int .u8 49), .lit (.int .u8 28), .lit (.int .u8 3), .lit (.int .u8 61), .lit (.int .u8 58), .lit (.int .u8 42), .lit (.int .u8 50), .lit (.int .u8 38), .lit (.int .u8 29), .lit (.int .u8 17), .lit (.int .u8 4), .lit (.int .u8 62), .lit (.int .u8 47), .lit (.int .u8 59), .lit (.int .u8 36), .lit (.int .u8 45), .lit (.int .u8 43), .lit (.int .u8 51), .lit (.int .u8 22), .lit (.int .u8 53), .lit (.int .u8 39), .lit (.int .u8 33), .lit (.int .u8 30), .lit (.int .u8 24), .lit (.int .u8 18), .lit (.int .u8 12), .lit (.int .u8 5), .lit (.int .u8 63), .lit (.int .u8 55), .lit (.int .u8 48), .lit (.int .u8 27), .lit (.int .u8 60), .lit (.int .u8 41), .lit (.int .u8 37), .lit (.int .u8 16), .lit (.int .u8 46), .lit (.int .u8 35), .lit (.int .u8 44), .lit (.int .u8 21), .lit (.int .u8 52), .lit (.int .u8 32), .lit (.int .u8 23), .lit (.int .u8 11), .lit (.int .u8 54), .lit (.int .u8 26), .lit (.int .u8 40), .lit (.int .u8 15), .lit (.int .u8 34), .lit (.int .u8 20), .lit (.int .u8 31), .lit (.int .u8 10), .lit (.int .u8 25), .lit (.int .u8 14), .lit (.int .u8 19), .lit (.int .u8 9), .lit (.int .u8 13), .lit (.int .u8 8), .lit (.int .u8 7), .lit (.int .u8 6)]

/-- 'laws.FnExactStatesWhere': WHATEVER THE INPUT: true; the input reads as it did. -/
def fnExactStatesWhereSpec : ChangeSpec := { name := "fnExactStatesWhere", fn := fun _ => fun
  | [d1, d2] => { results := [.lit (.bool true)], args := [d1, d2] }
  | _ => none }
def fnExactStatesWhereRow : OpenClaim := { program := "ytmlhnnkdecabpaadoor", sum := "c44f54c90a94f2f39c58e744ed77126a365679e1cc9cdc30c737213842578ba6", func := "loop.example/wholecheck/laws.FnExactStatesWhere", spec := "fnExactStatesWhere", named := ["math/bits.deBruijn64tab"], apart := false, laid := [("math/bits.deBruijn64tab", laid_math_bits_deBruijn64tab)] }
def FnExactStatesWhereSaid : Prop := fnExactStatesWhereRow.holds Tryd.pinned (OpenSpec.ofChange fnExactStatesWhereSpec)

/-- ITS FALSE NEIGHBOUR: 'it returns false'. Refute it at one input. -/
def fnExactStatesWhereWrong : ChangeSpec := { name := "fnExactStatesWhere", fn := fun _ => fun
  | [d1, d2] => { results := [.lit (.bool false)], args := [d1, d2] }
  | _ => none }
def FnExactStatesWhereWrongFalsely : Prop := fnExactStatesWhereRow.holds Tryd.pinned (OpenSpec.ofChange fnExactStatesWhereWrong)

/-- 'laws.FnExactNextNumbers': WHATEVER THE INPUT: true; the input reads as it did. -/
def fnExactNextNumbersSpec : ChangeSpec := { name := "fnExactNextNumbers", fn := fun _ => fun
  | [d1, d2] => { results := [.lit (.bool true)], args := [d1, d2] }
  | _ => none }
def fnExactNextNumbersRow : OpenClaim := { program := "ytmlhnnkdecabpaadoor", sum := "c44f54c90a94f2f39c58e744ed77126a365679e1cc9cdc30c737213842578ba6", func := "loop.example/wholecheck/laws.FnExactNextNumbers", spec := "fnExactNextNumbers", named := ["math/bits.deBruijn64tab"], apart := false, laid := [("math/bits.deBruijn64tab", laid_math_bits_deBruijn64tab)] }
def FnExactNextNumbersSaid : Prop := fnExactNextNumbersRow.holds Tryd.pinned (OpenSpec.ofChange fnExactNextNumbersSpec)

/-- ITS FALSE NEIGHBOUR: 'it returns false'. Refute it at one input. -/
def fnExactNextNumbersWrong : ChangeSpec := { name := "fnExactNextNumbers", fn := fun _ => fun
  | [d1, d2] => { results := [.lit (.bool false)], args := [d1, d2] }
  | _ => none }
def FnExactNextNumbersWrongFalsely : Prop := fnExactNextNumbersRow.holds Tryd.pinned (OpenSpec.ofChange fnExactNextNumbersWrong)

/-- 'laws.FnExactPastNumbers': WHATEVER THE INPUT: true; the input reads as it did. -/
def fnExactPastNumbersSpec : ChangeSpec := { name := "fnExactPastNumbers", fn := fun _ => fun
  | [d1, d2] => { results := [.lit (.bool true)], args := [d1, d2] }
  | _ => none }
def fnExactPastNumbersRow : OpenClaim := { program := "ytmlhnnkdecabpaadoor", sum := "c44f54c90a94f2f39c58e744ed77126a365679e1cc9cdc30c737213842578ba6", func := "loop.example/wholecheck/laws.FnExactPastNumbers", spec := "fnExactPastNumbers", named := ["math/bits.deBruijn64tab"], apart := false, laid := [("math/bits.deBruijn64tab", laid_math_bits_deBruijn64tab)] }
def FnExactPastNumbersSaid : Prop := fnExactPastNumbersRow.holds Tryd.pinned (OpenSpec.ofChange fnExactPastNumbersSpec)

/-- ITS FALSE NEIGHBOUR: 'it returns false'. Refute it at one input. -/
def fnExactPastNumbersWrong : ChangeSpec := { name := "fnExactPastNumbers", fn := fun _ => fun
  | [d1, d2] => { results := [.lit (.bool false)], args := [d1, d2] }
  | _ => none }
def FnExactPastNumbersWrongFalsely : Prop := fnExactPastNumbersRow.holds Tryd.pinned (OpenSpec.ofChange fnExactPastNumbersWrong)

/-- 'laws.FnExactSetBoth': WHATEVER THE INPUT: true; the input reads as it did. -/
def fnExactSetBothSpec : ChangeSpec := { name := "fnExactSetBoth", fn := fun _ => fun
  | [d1, d2] => { results := [.lit (.bool true)], args := [d1, d2] }
  | _ => none }
def fnExactSetBothRow : OpenClaim := { program := "ytmlhnnkdecabpaadoor", sum := "c44f54c90a94f2f39c58e744ed77126a365679e1cc9cdc30c737213842578ba6", func := "loop.example/wholecheck/laws.FnExactSetBoth", spec := "fnExactSetBoth", unfollowed := true, recurses := true, named := ["math/bits.deBruijn64tab"], apart := false, laid := [("math/bits.deBruijn64tab", laid_math_bits_deBruijn64tab)] }
def FnExactSetBothSaid : Prop := fnExactSetBothRow.holds Tryd.pinned (OpenSpec.ofChange fnExactSetBothSpec)

/-- ITS FALSE NEIGHBOUR: 'it returns false'. Refute it at one input. -/
def fnExactSetBothWrong : ChangeSpec := { name := "fnExactSetBoth", fn := fun _ => fun
  | [d1, d2] => { results := [.lit (.bool false)], args := [d1, d2] }
  | _ => none }
def FnExactSetBothWrongFalsely : Prop := fnExactSetBothRow.holds Tryd.pinned (OpenSpec.ofChange fnExactSetBothWrong)

/-- 'laws.FnExactSetEither': WHATEVER THE INPUT: true; the input reads as it did. -/
def fnExactSetEitherSpec : ChangeSpec := { name := "fnExactSetEither", fn := fun _ => fun
  | [d1, d2] => { results := [.lit (.bool true)], args := [d1, d2] }
  | _ => none }
def fnExactSetEitherRow : OpenClaim := { program := "ytmlhnnkdecabpaadoor", sum := "c44f54c90a94f2f39c58e744ed77126a365679e1cc9cdc30c737213842578ba6", func := "loop.example/wholecheck/laws.FnExactSetEither", spec := "fnExactSetEither", unfollowed := true, recurses := true, named := ["math/bits.deBruijn64tab"], apart := false, laid := [("math/bits.deBruijn64tab", laid_math_bits_deBruijn64tab)] }
def FnExactSetEitherSaid : Prop := fnExactSetEitherRow.holds Tryd.pinned (OpenSpec.ofChange fnExactSetEitherSpec)

/-- ITS FALSE NEIGHBOUR: 'it returns false'. Refute it at one input. -/
def fnExactSetEitherWrong : ChangeSpec := { name := "fnExactSetEither", fn := fun _ => fun
  | [d1, d2] => { results := [.lit (.bool false)], args := [d1, d2] }
  | _ => none }
def FnExactSetEitherWrongFalsely : Prop := fnExactSetEitherRow.holds Tryd.pinned (OpenSpec.ofChange fnExactSetEitherWrong)

/-- 'laws.FnExactSetWithout': WHATEVER THE INPUT: true; the input reads as it did. -/
def fnExactSetWithoutSpec : ChangeSpec := { name := "fnExactSetWithout", fn := fun _ => fun
  | [d1, d2] => { results := [.lit (.bool true)], args := [d1, d2] }
  | _ => none }
def fnExactSetWithoutRow : OpenClaim := { program := "ytmlhnnkdecabpaadoor", sum := "c44f54c90a94f2f39c58e744ed77126a365679e1cc9cdc30c737213842578ba6", func := "loop.example/wholecheck/laws.FnExactSetWithout", spec := "fnExactSetWithout", unfollowed := true, recurses := true, named := ["math/bits.deBruijn64tab"], apart := false, laid := [("math/bits.deBruijn64tab", laid_math_bits_deBruijn64tab)] }
def FnExactSetWithoutSaid : Prop := fnExactSetWithoutRow.holds Tryd.pinned (OpenSpec.ofChange fnExactSetWithoutSpec)

/-- ITS FALSE NEIGHBOUR: 'it returns false'. Refute it at one input. -/
def fnExactSetWithoutWrong : ChangeSpec := { name := "fnExactSetWithout", fn := fun _ => fun
  | [d1, d2] => { results := [.lit (.bool false)], args := [d1, d2] }
  | _ => none }
def FnExactSetWithoutWrongFalsely : Prop := fnExactSetWithoutRow.holds Tryd.pinned (OpenSpec.ofChange fnExactSetWithoutWrong)

/- THE SECOND FORM. 'bulk': how many values and letters a reading holds, each counted each time it is reached (what is shared counts as often as it is met; a slice's spare places count too). A statement '..UptoSaid' is the law's where the arguments, and the package variables that the reading takes, are together of bulk at most 1048576: NARROWER than '..Said'. Prove '..Said' where nothing that the law and all that it calls make is longer than what came in: it says more and counts as full. Else prove '..UptoSaid'. A law counts once. -/
mutual
def uptoBulk {H : Type} : DataW H → Nat
  | .lit (.string bytes) => bytes.length + 1
  | .lit _ => 1
  | .nil => 1
  | .ptr d => uptoBulk d + 1
  | .slice elems spare => uptoBulkAll elems + uptoBulkAll spare + 1
  | .agg parts => uptoBulkAll parts + 1
  | .iface _ d => uptoBulk d + 1
  | .map entries => uptoBulkEntries entries + 1
  | .held _ => 1
def uptoBulkAll {H : Type} : List (DataW H) → Nat
  | [] => 0
  | d :: r => uptoBulk d + uptoBulkAll r
def uptoBulkEntries {H : Type} : List (Lit × DataW H) → Nat
  | [] => 0
  | x :: r => uptoBulkEntry x + uptoBulkEntries r
def uptoBulkEntry {H : Type} : Lit × DataW H → Nat
  | (.string bytes, d) => bytes.length + uptoBulk d + 1
  | (_, d) => uptoBulk d + 1
 end
def uptoSmall : (H : Type) → List (DataW H) → Bool := fun _ ds => decide (uptoBulkAll ds ≤ 1048576)
def OpenSpec.upto (s : _root_.Go.ChangeSpec) : _root_.Go.OpenSpec := { _root_.Go.OpenSpec.ofChange s with cond := some uptoSmall }

/-- 'laws.FnExactStatesWhere', WHERE WHAT IT READS IS OF BULK AT MOST 1048576: true; the input reads as it did. -/
def fnExactStatesWhereUptoRow : OpenClaim := { program := "ytmlhnnkdecabpaadoor", sum := "c44f54c90a94f2f39c58e744ed77126a365679e1cc9cdc30c737213842578ba6", func := "loop.example/wholecheck/laws.FnExactStatesWhere", spec := "fnExactStatesWhere", named := ["math/bits.deBruijn64tab"], apart := false, laid := [("math/bits.deBruijn64tab", laid_math_bits_deBruijn64tab)], narrowed := true }
def FnExactStatesWhereUptoSaid : Prop := fnExactStatesWhereUptoRow.holds Tryd.pinned (OpenSpec.upto fnExactStatesWhereSpec)

/-- 'laws.FnExactNextNumbers', WHERE WHAT IT READS IS OF BULK AT MOST 1048576: true; the input reads as it did. -/
def fnExactNextNumbersUptoRow : OpenClaim := { program := "ytmlhnnkdecabpaadoor", sum := "c44f54c90a94f2f39c58e744ed77126a365679e1cc9cdc30c737213842578ba6", func := "loop.example/wholecheck/laws.FnExactNextNumbers", spec := "fnExactNextNumbers", named := ["math/bits.deBruijn64tab"], apart := false, laid := [("math/bits.deBruijn64tab", laid_math_bits_deBruijn64tab)], narrowed := true }
def FnExactNextNumbersUptoSaid : Prop := fnExactNextNumbersUptoRow.holds Tryd.pinned (OpenSpec.upto fnExactNextNumbersSpec)

/-- 'laws.FnExactPastNumbers', WHERE WHAT IT READS IS OF BULK AT MOST 1048576: true; the input reads as it did. -/
def fnExactPastNumbersUptoRow : OpenClaim := { program := "ytmlhnnkdecabpaadoor", sum := "c44f54c90a94f2f39c58e744ed77126a365679e1cc9cdc30c737213842578ba6", func := "loop.example/wholecheck/laws.FnExactPastNumbers", spec := "fnExactPastNumbers", named := ["math/bits.deBruijn64tab"], apart := false, laid := [("math/bits.deBruijn64tab", laid_math_bits_deBruijn64tab)], narrowed := true }
def FnExactPastNumbersUptoSaid : Prop := fnExactPastNumbersUptoRow.holds Tryd.pinned (OpenSpec.upto fnExactPastNumbersSpec)

/-- 'laws.FnExactSetBoth', WHERE WHAT IT READS IS OF BULK AT MOST 1048576: true; the input reads as it did. -/
def fnExactSetBothUptoRow : OpenClaim := { program := "ytmlhnnkdecabpaadoor", sum := "c44f54c90a94f2f39c58e744ed77126a365679e1cc9cdc30c737213842578ba6", func := "loop.example/wholecheck/laws.FnExactSetBoth", spec := "fnExactSetBoth", unfollowed := true, recurses := true, named := ["math/bits.deBruijn64tab"], apart := false, laid := [("math/bits.deBruijn64tab", laid_math_bits_deBruijn64tab)], narrowed := true }
def FnExactSetBothUptoSaid : Prop := fnExactSetBothUptoRow.holds Tryd.pinned (OpenSpec.upto fnExactSetBothSpec)

/-- 'laws.FnExactSetEither', WHERE WHAT IT READS IS OF BULK AT MOST 1048576: true; the input reads as it did. -/
def fnExactSetEitherUptoRow : OpenClaim := { program := "ytmlhnnkdecabpaadoor", sum := "c44f54c90a94f2f39c58e744ed77126a365679e1cc9cdc30c737213842578ba6", func := "loop.example/wholecheck/laws.FnExactSetEither", spec := "fnExactSetEither", unfollowed := true, recurses := true, named := ["math/bits.deBruijn64tab"], apart := false, laid := [("math/bits.deBruijn64tab", laid_math_bits_deBruijn64tab)], narrowed := true }
def FnExactSetEitherUptoSaid : Prop := fnExactSetEitherUptoRow.holds Tryd.pinned (OpenSpec.upto fnExactSetEitherSpec)

/-- 'laws.FnExactSetWithout', WHERE WHAT IT READS IS OF BULK AT MOST 1048576: true; the input reads as it did. -/
def fnExactSetWithoutUptoRow : OpenClaim := { program := "ytmlhnnkdecabpaadoor", sum := "c44f54c90a94f2f39c58e744ed77126a365679e1cc9cdc30c737213842578ba6", func := "loop.example/wholecheck/laws.FnExactSetWithout", spec := "fnExactSetWithout", unfollowed := true, recurses := true, named := ["math/bits.deBruijn64tab"], apart := false, laid := [("math/bits.deBruijn64tab", laid_math_bits_deBruijn64tab)], narrowed := true }
def FnExactSetWithoutUptoSaid : Prop := fnExactSetWithoutUptoRow.holds Tryd.pinned (OpenSpec.upto fnExactSetWithoutSpec)

end Rows
end Go.Proofs.YtmlhnnkdecabpaaDoor
