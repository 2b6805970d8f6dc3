/-
  No cell of these rows narrows 'for every input' (looked for: loops, veiled, ifaces, maps, wideKeys, modest, calm, conditions, laid).
  DERIVED. THE GIVEN ROWS OF THIS SEAT. 9 by the template 'for every input the law returns true; each argument reads behind the call as it read before'; 0 by the template 'total and deterministic' (their statements: YtnpdeliaefjmlaaTotals.lean).
  GIVEN WITH THE SEED: the statements are not yours to turn. If you find one false, say at which input.
  Laid BY PROGRAM, IN A SANDBOX (cutbox-rows.mjs): the forced cells as the released guide's own fill.sh prints them over the translation 2bf03e076c3424bd… (all of the seat's roots in one cut). By AI agents, Wed Nov 11 2026. No macro, syntax, notation, axiom, sorry.
-/
import Derived.Test.YtnpdeliaefjmlaaChecked
import GoSem.Claim
import GoSem.ClaimJoined
import GoSem.ClaimMapViews
import Derived.JoinedTies
import Derived.KernelRfl
namespace Go.Proofs.Ytnpdeliaefjmlaa
/- THE CELL 'sum', in the pinned program and in every row, IS THE sha256 OF THE DUMP (.gsa) THAT YtnpdeliaefjmlaaProg.lean LOADS. Nothing in Lean hashes anything: it is a label: what it is worth is what the hold of that sum in a sandbox is worth. -/
noncomputable def Try.pinned : Pinned := { name := "ytnpdeliaefjmlaa", sum := "2bf03e076c3424bd0e96713af9a472c308ba4b9760b26071dc87d7516b5fe972", checked := Try.checked }
namespace Rows
def none {H : Type} : Left H := { results := [], args := [] }

/-- 'laws.FnExactNeedsInputs': WHATEVER THE INPUT: true; the input reads as it did. -/
def fnExactNeedsInputsSpec : ChangeSpec := { name := "fnExactNeedsInputs", fn := fun _ => fun
  | [d1, d2] => { results := [.lit (.bool true)], args := [d1, d2] }
  | _ => none }
def fnExactNeedsInputsRow : OpenClaim := { program := "ytnpdeliaefjmlaa", sum := "2bf03e076c3424bd0e96713af9a472c308ba4b9760b26071dc87d7516b5fe972", func := "loop.example/wholecheck/laws.FnExactNeedsInputs", spec := "fnExactNeedsInputs", unfollowed := true, recurses := true, plainKeys := false, apart := false }
def FnExactNeedsInputsSaid : Prop := fnExactNeedsInputsRow.holds Try.pinned (OpenSpec.ofChange fnExactNeedsInputsSpec)

/-- ITS FALSE NEIGHBOUR: 'it returns false'. Refute it at one input. -/
def fnExactNeedsInputsWrong : ChangeSpec := { name := "fnExactNeedsInputs", fn := fun _ => fun
  | [d1, d2] => { results := [.lit (.bool false)], args := [d1, d2] }
  | _ => none }
def FnExactNeedsInputsWrongFalsely : Prop := fnExactNeedsInputsRow.holds Try.pinned (OpenSpec.ofChange fnExactNeedsInputsWrong)

/-- 'laws.FnExactFixed': WHATEVER THE INPUT: true; the input reads as it did. -/
def fnExactFixedSpec : ChangeSpec := { name := "fnExactFixed", fn := fun _ => fun
  | [d1, d2, d3, d4] => { results := [.lit (.bool true)], args := [d1, d2, d3, d4] }
  | _ => none }
def fnExactFixedRow : OpenClaim := { program := "ytnpdeliaefjmlaa", sum := "2bf03e076c3424bd0e96713af9a472c308ba4b9760b26071dc87d7516b5fe972", func := "loop.example/wholecheck/laws.FnExactFixed", spec := "fnExactFixed", plainKeys := false, apart := false }
def FnExactFixedSaid : Prop := fnExactFixedRow.holds Try.pinned (OpenSpec.ofChange fnExactFixedSpec)

/-- ITS FALSE NEIGHBOUR: 'it returns false'. Refute it at one input. -/
def fnExactFixedWrong : ChangeSpec := { name := "fnExactFixed", fn := fun _ => fun
  | [d1, d2, d3, d4] => { results := [.lit (.bool false)], args := [d1, d2, d3, d4] }
  | _ => none }
def FnExactFixedWrongFalsely : Prop := fnExactFixedRow.holds Try.pinned (OpenSpec.ofChange fnExactFixedWrong)

/-- 'laws.FnExactDiagramFix': WHATEVER THE INPUT: true; the input reads as it did. -/
def fnExactDiagramFixSpec : ChangeSpec := { name := "fnExactDiagramFix", fn := fun _ => fun
  | [d1, d2, d3, d4] => { results := [.lit (.bool true)], args := [d1, d2, d3, d4] }
  | _ => none }
def fnExactDiagramFixRow : OpenClaim := { program := "ytnpdeliaefjmlaa", sum := "2bf03e076c3424bd0e96713af9a472c308ba4b9760b26071dc87d7516b5fe972", func := "loop.example/wholecheck/laws.FnExactDiagramFix", spec := "fnExactDiagramFix", recurses := true, plainKeys := false, apart := false }
def FnExactDiagramFixSaid : Prop := fnExactDiagramFixRow.holds Try.pinned (OpenSpec.ofChange fnExactDiagramFixSpec)

/-- ITS FALSE NEIGHBOUR: 'it returns false'. Refute it at one input. -/
def fnExactDiagramFixWrong : ChangeSpec := { name := "fnExactDiagramFix", fn := fun _ => fun
  | [d1, d2, d3, d4] => { results := [.lit (.bool false)], args := [d1, d2, d3, d4] }
  | _ => none }
def FnExactDiagramFixWrongFalsely : Prop := fnExactDiagramFixRow.holds Try.pinned (OpenSpec.ofChange fnExactDiagramFixWrong)

/-- 'laws.FnExactDiagramSome': WHATEVER THE INPUT: true; the input reads as it did. -/
def fnExactDiagramSomeSpec : ChangeSpec := { name := "fnExactDiagramSome", fn := fun _ => fun
  | [d1, d2, d3] => { results := [.lit (.bool true)], args := [d1, d2, d3] }
  | _ => none }
def fnExactDiagramSomeRow : OpenClaim := { program := "ytnpdeliaefjmlaa", sum := "2bf03e076c3424bd0e96713af9a472c308ba4b9760b26071dc87d7516b5fe972", func := "loop.example/wholecheck/laws.FnExactDiagramSome", spec := "fnExactDiagramSome", recurses := true, plainKeys := false, apart := false }
def FnExactDiagramSomeSaid : Prop := fnExactDiagramSomeRow.holds Try.pinned (OpenSpec.ofChange fnExactDiagramSomeSpec)

/-- ITS FALSE NEIGHBOUR: 'it returns false'. Refute it at one input. -/
def fnExactDiagramSomeWrong : ChangeSpec := { name := "fnExactDiagramSome", fn := fun _ => fun
  | [d1, d2, d3] => { results := [.lit (.bool false)], args := [d1, d2, d3] }
  | _ => none }
def FnExactDiagramSomeWrongFalsely : Prop := fnExactDiagramSomeRow.holds Try.pinned (OpenSpec.ofChange fnExactDiagramSomeWrong)

/-- 'laws.FnExactDiagramUses': WHATEVER THE INPUT: true; the input reads as it did. -/
def fnExactDiagramUsesSpec : ChangeSpec := { name := "fnExactDiagramUses", fn := fun _ => fun
  | [d1, d2] => { results := [.lit (.bool true)], args := [d1, d2] }
  | _ => none }
def fnExactDiagramUsesRow : OpenClaim := { program := "ytnpdeliaefjmlaa", sum := "2bf03e076c3424bd0e96713af9a472c308ba4b9760b26071dc87d7516b5fe972", func := "loop.example/wholecheck/laws.FnExactDiagramUses", spec := "fnExactDiagramUses", unfollowed := true, recurses := true, plainKeys := false, apart := false }
def FnExactDiagramUsesSaid : Prop := fnExactDiagramUsesRow.holds Try.pinned (OpenSpec.ofChange fnExactDiagramUsesSpec)

/-- ITS FALSE NEIGHBOUR: 'it returns false'. Refute it at one input. -/
def fnExactDiagramUsesWrong : ChangeSpec := { name := "fnExactDiagramUses", fn := fun _ => fun
  | [d1, d2] => { results := [.lit (.bool false)], args := [d1, d2] }
  | _ => none }
def FnExactDiagramUsesWrongFalsely : Prop := fnExactDiagramUsesRow.holds Try.pinned (OpenSpec.ofChange fnExactDiagramUsesWrong)

/-- 'laws.FnExactOrderValid': WHATEVER THE INPUT: true; the input reads as it did. -/
def fnExactOrderValidSpec : ChangeSpec := { name := "fnExactOrderValid", fn := fun _ => fun
  | [d1, d2] => { results := [.lit (.bool true)], args := [d1, d2] }
  | _ => none }
def fnExactOrderValidRow : OpenClaim := { program := "ytnpdeliaefjmlaa", sum := "2bf03e076c3424bd0e96713af9a472c308ba4b9760b26071dc87d7516b5fe972", func := "loop.example/wholecheck/laws.FnExactOrderValid", spec := "fnExactOrderValid", plainKeys := false, apart := false }
def FnExactOrderValidSaid : Prop := fnExactOrderValidRow.holds Try.pinned (OpenSpec.ofChange fnExactOrderValidSpec)

/-- ITS FALSE NEIGHBOUR: 'it returns false'. Refute it at one input. -/
def fnExactOrderValidWrong : ChangeSpec := { name := "fnExactOrderValid", fn := fun _ => fun
  | [d1, d2] => { results := [.lit (.bool false)], args := [d1, d2] }
  | _ => none }
def FnExactOrderValidWrongFalsely : Prop := fnExactOrderValidRow.holds Try.pinned (OpenSpec.ofChange fnExactOrderValidWrong)

/-- 'laws.FnExactOrderBack': WHATEVER THE INPUT: true; the input reads as it did. -/
def fnExactOrderBackSpec : ChangeSpec := { name := "fnExactOrderBack", fn := fun _ => fun
  | [d] => { results := [.lit (.bool true)], args := [d] }
  | _ => none }
def fnExactOrderBackRow : OpenClaim := { program := "ytnpdeliaefjmlaa", sum := "2bf03e076c3424bd0e96713af9a472c308ba4b9760b26071dc87d7516b5fe972", func := "loop.example/wholecheck/laws.FnExactOrderBack", spec := "fnExactOrderBack", plainKeys := false, apart := false }
def FnExactOrderBackSaid : Prop := fnExactOrderBackRow.holds Try.pinned (OpenSpec.ofChange fnExactOrderBackSpec)

/-- ITS FALSE NEIGHBOUR: 'it returns false'. Refute it at one input. -/
def fnExactOrderBackWrong : ChangeSpec := { name := "fnExactOrderBack", fn := fun _ => fun
  | [d] => { results := [.lit (.bool false)], args := [d] }
  | _ => none }
def FnExactOrderBackWrongFalsely : Prop := fnExactOrderBackRow.holds Try.pinned (OpenSpec.ofChange fnExactOrderBackWrong)

/-- 'laws.FnExactForksOf': WHATEVER THE INPUT: true; the input reads as it did. -/
def fnExactForksOfSpec : ChangeSpec := { name := "fnExactForksOf", fn := fun _ => fun
  | [d1, d2] => { results := [.lit (.bool true)], args := [d1, d2] }
  | _ => none }
def fnExactForksOfRow : OpenClaim := { program := "ytnpdeliaefjmlaa", sum := "2bf03e076c3424bd0e96713af9a472c308ba4b9760b26071dc87d7516b5fe972", func := "loop.example/wholecheck/laws.FnExactForksOf", spec := "fnExactForksOf", unfollowed := true, recurses := true, plainKeys := false, apart := false }
def FnExactForksOfSaid : Prop := fnExactForksOfRow.holds Try.pinned (OpenSpec.ofChange fnExactForksOfSpec)

/-- ITS FALSE NEIGHBOUR: 'it returns false'. Refute it at one input. -/
def fnExactForksOfWrong : ChangeSpec := { name := "fnExactForksOf", fn := fun _ => fun
  | [d1, d2] => { results := [.lit (.bool false)], args := [d1, d2] }
  | _ => none }
def FnExactForksOfWrongFalsely : Prop := fnExactForksOfRow.holds Try.pinned (OpenSpec.ofChange fnExactForksOfWrong)

/-- 'laws.FnExactCompacted': WHATEVER THE INPUT: true; the input reads as it did. -/
def fnExactCompactedSpec : ChangeSpec := { name := "fnExactCompacted", fn := fun _ => fun
  | [d1, d2] => { results := [.lit (.bool true)], args := [d1, d2] }
  | _ => none }
def fnExactCompactedRow : OpenClaim := { program := "ytnpdeliaefjmlaa", sum := "2bf03e076c3424bd0e96713af9a472c308ba4b9760b26071dc87d7516b5fe972", func := "loop.example/wholecheck/laws.FnExactCompacted", spec := "fnExactCompacted", recurses := true, plainKeys := false, apart := false }
def FnExactCompactedSaid : Prop := fnExactCompactedRow.holds Try.pinned (OpenSpec.ofChange fnExactCompactedSpec)

/-- ITS FALSE NEIGHBOUR: 'it returns false'. Refute it at one input. -/
def fnExactCompactedWrong : ChangeSpec := { name := "fnExactCompacted", fn := fun _ => fun
  | [d1, d2] => { results := [.lit (.bool false)], args := [d1, d2] }
  | _ => none }
def FnExactCompactedWrongFalsely : Prop := fnExactCompactedRow.holds Try.pinned (OpenSpec.ofChange fnExactCompactedWrong)

/- THE SECOND FORM. 'bulk': how many values and letters a reading holds, each counted each time it is reached (what is shared counts as often as it is met; a slice's spare places count too). A statement '..UptoSaid' is the law's where the arguments, and the package variables that the reading takes, are together of bulk at most 1048576: NARROWER than '..Said'. Prove '..Said' where nothing that the law and all that it calls make is longer than what came in: it says more and counts as full. Else prove '..UptoSaid'. A law counts once. -/
mutual
def uptoBulk {H : Type} : DataW H → Nat
  | .lit (.string bytes) => bytes.length + 1
  | .lit _ => 1
  | .nil => 1
  | .ptr d => uptoBulk d + 1
  | .slice elems spare => uptoBulkAll elems + uptoBulkAll spare + 1
  | .agg parts => uptoBulkAll parts + 1
  | .iface _ d => uptoBulk d + 1
  | .map entries => uptoBulkEntries entries + 1
  | .held _ => 1
def uptoBulkAll {H : Type} : List (DataW H) → Nat
  | [] => 0
  | d :: r => uptoBulk d + uptoBulkAll r
def uptoBulkEntries {H : Type} : List (Lit × DataW H) → Nat
  | [] => 0
  | x :: r => uptoBulkEntry x + uptoBulkEntries r
def uptoBulkEntry {H : Type} : Lit × DataW H → Nat
  | (.string bytes, d) => bytes.length + uptoBulk d + 1
  | (_, d) => uptoBulk d + 1
 end
def uptoSmall : (H : Type) → List (DataW H) → Bool := fun _ ds => decide (uptoBulkAll ds ≤ 1048576)
def OpenSpec.upto (s : _root_.Go.ChangeSpec) : _root_.Go.OpenSpec := { _root_.Go.OpenSpec.ofChange s with cond := some uptoSmall }

/-- 'laws.FnExactNeedsInputs', WHERE WHAT IT READS IS OF BULK AT MOST 1048576: true; the input reads as it did. -/
def fnExactNeedsInputsUptoRow : OpenClaim := { program := "ytnpdeliaefjmlaa", sum := "2bf03e076c3424bd0e96713af9a472c308ba4b9760b26071dc87d7516b5fe972", func := "loop.example/wholecheck/laws.FnExactNeedsInputs", spec := "fnExactNeedsInputs", unfollowed := true, recurses := true, plainKeys := false, apart := false, narrowed := true }
def FnExactNeedsInputsUptoSaid : Prop := fnExactNeedsInputsUptoRow.holds Try.pinned (OpenSpec.upto fnExactNeedsInputsSpec)

/-- 'laws.FnExactFixed', WHERE WHAT IT READS IS OF BULK AT MOST 1048576: true; the input reads as it did. -/
def fnExactFixedUptoRow : OpenClaim := { program := "ytnpdeliaefjmlaa", sum := "2bf03e076c3424bd0e96713af9a472c308ba4b9760b26071dc87d7516b5fe972", func := "loop.example/wholecheck/laws.FnExactFixed", spec := "fnExactFixed", plainKeys := false, apart := false, narrowed := true }
def FnExactFixedUptoSaid : Prop := fnExactFixedUptoRow.holds Try.pinned (OpenSpec.upto fnExactFixedSpec)

/-- 'laws.FnExactDiagramFix', WHERE WHAT IT READS IS OF BULK AT MOST 1048576: true; the input reads as it did. -/
def fnExactDiagramFixUptoRow : OpenClaim := { program := "ytnpdeliaefjmlaa", sum := "2bf03e076c3424bd0e96713af9a472c308ba4b9760b26071dc87d7516b5fe972", func := "loop.example/wholecheck/laws.FnExactDiagramFix", spec := "fnExactDiagramFix", recurses := true, plainKeys := false, apart := false, narrowed := true }
def FnExactDiagramFixUptoSaid : Prop := fnExactDiagramFixUptoRow.holds Try.pinned (OpenSpec.upto fnExactDiagramFixSpec)

/-- 'laws.FnExactDiagramSome', WHERE WHAT IT READS IS OF BULK AT MOST 1048576: true; the input reads as it did. -/
def fnExactDiagramSomeUptoRow : OpenClaim := { program := "ytnpdeliaefjmlaa", sum := "2bf03e076c3424bd0e96713af9a472c308ba4b9760b26071dc87d7516b5fe972", func := "loop.example/wholecheck/laws.FnExactDiagramSome", spec := "fnExactDiagramSome", recurses := true, plainKeys := false, apart := false, narrowed := true }
def FnExactDiagramSomeUptoSaid : Prop := fnExactDiagramSomeUptoRow.holds Try.pinned (OpenSpec.upto fnExactDiagramSomeSpec)

/-- 'laws.FnExactDiagramUses', WHERE WHAT IT READS IS OF BULK AT MOST 1048576: true; the input reads as it did. -/
def fnExactDiagramUsesUptoRow : OpenClaim := { program := "ytnpdeliaefjmlaa", sum := "2bf03e076c3424bd0e96713af9a472c308ba4b9760b26071dc87d7516b5fe972", func := "loop.example/wholecheck/laws.FnExactDiagramUses", spec := "fnExactDiagramUses", unfollowed := true, recurses := true, plainKeys := false, apart := false, narrowed := true }
def FnExactDiagramUsesUptoSaid : Prop := fnExactDiagramUsesUptoRow.holds Try.pinned (OpenSpec.upto fnExactDiagramUsesSpec)

/-- 'laws.FnExactOrderValid', WHERE WHAT IT READS IS OF BULK AT MOST 1048576: true; the input reads as it did. -/
def fnExactOrderValidUptoRow : OpenClaim := { program := "ytnpdeliaefjmlaa", sum := "2bf03e076c3424bd0e96713af9a472c308ba4b9760b26071dc87d7516b5fe972", func := "loop.example/wholecheck/laws.FnExactOrderValid", spec := "fnExactOrderValid", plainKeys := false, apart := false, narrowed := true }
def FnExactOrderValidUptoSaid : Prop := fnExactOrderValidUptoRow.holds Try.pinned (OpenSpec.upto fnExactOrderValidSpec)

/-- 'laws.FnExactOrderBack', WHERE WHAT IT READS IS OF BULK AT MOST 1048576: true; the input reads as it did. -/
def fnExactOrderBackUptoRow : OpenClaim := { program := "ytnpdeliaefjmlaa", sum := "2bf03e076c3424bd0e96713af9a472c308ba4b9760b26071dc87d7516b5fe972", func := "loop.example/wholecheck/laws.FnExactOrderBack", spec := "fnExactOrderBack", plainKeys := false, apart := false, narrowed := true }
def FnExactOrderBackUptoSaid : Prop := fnExactOrderBackUptoRow.holds Try.pinned (OpenSpec.upto fnExactOrderBackSpec)

/-- 'laws.FnExactForksOf', WHERE WHAT IT READS IS OF BULK AT MOST 1048576: true; the input reads as it did. -/
def fnExactForksOfUptoRow : OpenClaim := { program := "ytnpdeliaefjmlaa", sum := "2bf03e076c3424bd0e96713af9a472c308ba4b9760b26071dc87d7516b5fe972", func := "loop.example/wholecheck/laws.FnExactForksOf", spec := "fnExactForksOf", unfollowed := true, recurses := true, plainKeys := false, apart := false, narrowed := true }
def FnExactForksOfUptoSaid : Prop := fnExactForksOfUptoRow.holds Try.pinned (OpenSpec.upto fnExactForksOfSpec)

/-- 'laws.FnExactCompacted', WHERE WHAT IT READS IS OF BULK AT MOST 1048576: true; the input reads as it did. -/
def fnExactCompactedUptoRow : OpenClaim := { program := "ytnpdeliaefjmlaa", sum := "2bf03e076c3424bd0e96713af9a472c308ba4b9760b26071dc87d7516b5fe972", func := "loop.example/wholecheck/laws.FnExactCompacted", spec := "fnExactCompacted", recurses := true, plainKeys := false, apart := false, narrowed := true }
def FnExactCompactedUptoSaid : Prop := fnExactCompactedUptoRow.holds Try.pinned (OpenSpec.upto fnExactCompactedSpec)

end Rows
end Go.Proofs.Ytnpdeliaefjmlaa
