/-
  No cell of these rows narrows 'for every input' (looked for: loops, veiled, ifaces, maps, wideKeys, modest, calm, conditions, laid).
  DERIVED. THE GIVEN ROWS OF THIS SEAT. 11 by the template 'for every input the law returns true; each argument reads behind the call as it read before'; 0 by the template 'total and deterministic' (their statements: YtmpclfjaddjelaaTotals.lean).
  GIVEN WITH THE SEED: the statements are not yours to turn. If you find one false, say at which input.
  Laid BY PROGRAM, IN A SANDBOX (cutbox-rows.mjs): the forced cells as the released guide's own fill.sh prints them over the translation 7dad3675015db596… (all of the seat's roots in one cut). By AI agents, Wed Nov 11 2026. No macro, syntax, notation, axiom, sorry.
-/
import Derived.Test.YtmpclfjaddjelaaChecked
import GoSem.Claim
import GoSem.ClaimJoined
import GoSem.ClaimMapViews
import Derived.JoinedTies
import Derived.KernelRfl
namespace Go.Proofs.Ytmpclfjaddjelaa
/- THE CELL 'sum', in the pinned program and in every row, IS THE sha256 OF THE DUMP (.gsa) THAT YtmpclfjaddjelaaProg.lean LOADS. Nothing in Lean hashes anything: it is a label: what it is worth is what the hold of that sum in a sandbox is worth. -/
noncomputable def Try.pinned : Pinned := { name := "ytmpclfjaddjelaa", sum := "7dad3675015db596efdf558e4bf55880baec2d25f336d45c6e1bfe7e5fb53387", checked := Try.checked }
namespace Rows
def none {H : Type} : Left H := { results := [], args := [] }

/-- 'laws.FnEvalRange': WHATEVER THE INPUT: true; the input reads as it did. -/
def fnEvalRangeSpec : ChangeSpec := { name := "fnEvalRange", fn := fun _ => fun
  | [d] => { results := [.lit (.bool true)], args := [d] }
  | _ => none }
def fnEvalRangeRow : OpenClaim := { program := "ytmpclfjaddjelaa", sum := "7dad3675015db596efdf558e4bf55880baec2d25f336d45c6e1bfe7e5fb53387", func := "loop.example/wholecheck/laws.FnEvalRange", spec := "fnEvalRange", apart := false }
def FnEvalRangeSaid : Prop := fnEvalRangeRow.holds Try.pinned (OpenSpec.ofChange fnEvalRangeSpec)

/-- ITS FALSE NEIGHBOUR: 'it returns false'. Refute it at one input. -/
def fnEvalRangeWrong : ChangeSpec := { name := "fnEvalRange", fn := fun _ => fun
  | [d] => { results := [.lit (.bool false)], args := [d] }
  | _ => none }
def FnEvalRangeWrongFalsely : Prop := fnEvalRangeRow.holds Try.pinned (OpenSpec.ofChange fnEvalRangeWrong)

/-- 'laws.FnEvalUsed': WHATEVER THE INPUT: true; the input reads as it did. -/
def fnEvalUsedSpec : ChangeSpec := { name := "fnEvalUsed", fn := fun _ => fun
  | [d] => { results := [.lit (.bool true)], args := [d] }
  | _ => none }
def fnEvalUsedRow : OpenClaim := { program := "ytmpclfjaddjelaa", sum := "7dad3675015db596efdf558e4bf55880baec2d25f336d45c6e1bfe7e5fb53387", func := "loop.example/wholecheck/laws.FnEvalUsed", spec := "fnEvalUsed", apart := false }
def FnEvalUsedSaid : Prop := fnEvalUsedRow.holds Try.pinned (OpenSpec.ofChange fnEvalUsedSpec)

/-- ITS FALSE NEIGHBOUR: 'it returns false'. Refute it at one input. -/
def fnEvalUsedWrong : ChangeSpec := { name := "fnEvalUsed", fn := fun _ => fun
  | [d] => { results := [.lit (.bool false)], args := [d] }
  | _ => none }
def FnEvalUsedWrongFalsely : Prop := fnEvalUsedRow.holds Try.pinned (OpenSpec.ofChange fnEvalUsedWrong)

/-- 'laws.FnJoined': WHATEVER THE INPUT: true; the input reads as it did. -/
def fnJoinedSpec : ChangeSpec := { name := "fnJoined", fn := fun _ => fun
  | [d] => { results := [.lit (.bool true)], args := [d] }
  | _ => none }
def fnJoinedRow : OpenClaim := { program := "ytmpclfjaddjelaa", sum := "7dad3675015db596efdf558e4bf55880baec2d25f336d45c6e1bfe7e5fb53387", func := "loop.example/wholecheck/laws.FnJoined", spec := "fnJoined", apart := false }
def FnJoinedSaid : Prop := fnJoinedRow.holds Try.pinned (OpenSpec.ofChange fnJoinedSpec)

/-- ITS FALSE NEIGHBOUR: 'it returns false'. Refute it at one input. -/
def fnJoinedWrong : ChangeSpec := { name := "fnJoined", fn := fun _ => fun
  | [d] => { results := [.lit (.bool false)], args := [d] }
  | _ => none }
def FnJoinedWrongFalsely : Prop := fnJoinedRow.holds Try.pinned (OpenSpec.ofChange fnJoinedWrong)

/-- 'laws.FnShifted': WHATEVER THE INPUT: true; the input reads as it did. -/
def fnShiftedSpec : ChangeSpec := { name := "fnShifted", fn := fun _ => fun
  | [d] => { results := [.lit (.bool true)], args := [d] }
  | _ => none }
def fnShiftedRow : OpenClaim := { program := "ytmpclfjaddjelaa", sum := "7dad3675015db596efdf558e4bf55880baec2d25f336d45c6e1bfe7e5fb53387", func := "loop.example/wholecheck/laws.FnShifted", spec := "fnShifted", apart := false }
def FnShiftedSaid : Prop := fnShiftedRow.holds Try.pinned (OpenSpec.ofChange fnShiftedSpec)

/-- ITS FALSE NEIGHBOUR: 'it returns false'. Refute it at one input. -/
def fnShiftedWrong : ChangeSpec := { name := "fnShifted", fn := fun _ => fun
  | [d] => { results := [.lit (.bool false)], args := [d] }
  | _ => none }
def FnShiftedWrongFalsely : Prop := fnShiftedRow.holds Try.pinned (OpenSpec.ofChange fnShiftedWrong)

/-- 'laws.FnExactKindsOf': WHATEVER THE INPUT: true; the input reads as it did. -/
def fnExactKindsOfSpec : ChangeSpec := { name := "fnExactKindsOf", fn := fun _ => fun
  | [d1, d2] => { results := [.lit (.bool true)], args := [d1, d2] }
  | _ => none }
def fnExactKindsOfRow : OpenClaim := { program := "ytmpclfjaddjelaa", sum := "7dad3675015db596efdf558e4bf55880baec2d25f336d45c6e1bfe7e5fb53387", func := "loop.example/wholecheck/laws.FnExactKindsOf", spec := "fnExactKindsOf", apart := false }
def FnExactKindsOfSaid : Prop := fnExactKindsOfRow.holds Try.pinned (OpenSpec.ofChange fnExactKindsOfSpec)

/-- ITS FALSE NEIGHBOUR: 'it returns false'. Refute it at one input. -/
def fnExactKindsOfWrong : ChangeSpec := { name := "fnExactKindsOf", fn := fun _ => fun
  | [d1, d2] => { results := [.lit (.bool false)], args := [d1, d2] }
  | _ => none }
def FnExactKindsOfWrongFalsely : Prop := fnExactKindsOfRow.holds Try.pinned (OpenSpec.ofChange fnExactKindsOfWrong)

/-- 'laws.FnExactTermsValid': WHATEVER THE INPUT: true; the input reads as it did. -/
def fnExactTermsValidSpec : ChangeSpec := { name := "fnExactTermsValid", fn := fun _ => fun
  | [d1, d2] => { results := [.lit (.bool true)], args := [d1, d2] }
  | _ => none }
def fnExactTermsValidRow : OpenClaim := { program := "ytmpclfjaddjelaa", sum := "7dad3675015db596efdf558e4bf55880baec2d25f336d45c6e1bfe7e5fb53387", func := "loop.example/wholecheck/laws.FnExactTermsValid", spec := "fnExactTermsValid", apart := false }
def FnExactTermsValidSaid : Prop := fnExactTermsValidRow.holds Try.pinned (OpenSpec.ofChange fnExactTermsValidSpec)

/-- ITS FALSE NEIGHBOUR: 'it returns false'. Refute it at one input. -/
def fnExactTermsValidWrong : ChangeSpec := { name := "fnExactTermsValid", fn := fun _ => fun
  | [d1, d2] => { results := [.lit (.bool false)], args := [d1, d2] }
  | _ => none }
def FnExactTermsValidWrongFalsely : Prop := fnExactTermsValidRow.holds Try.pinned (OpenSpec.ofChange fnExactTermsValidWrong)

/-- 'laws.FnExactEval': WHATEVER THE INPUT: true; the input reads as it did. -/
def fnExactEvalSpec : ChangeSpec := { name := "fnExactEval", fn := fun _ => fun
  | [d1, d2] => { results := [.lit (.bool true)], args := [d1, d2] }
  | _ => none }
def fnExactEvalRow : OpenClaim := { program := "ytmpclfjaddjelaa", sum := "7dad3675015db596efdf558e4bf55880baec2d25f336d45c6e1bfe7e5fb53387", func := "loop.example/wholecheck/laws.FnExactEval", spec := "fnExactEval", apart := false }
def FnExactEvalSaid : Prop := fnExactEvalRow.holds Try.pinned (OpenSpec.ofChange fnExactEvalSpec)

/-- ITS FALSE NEIGHBOUR: 'it returns false'. Refute it at one input. -/
def fnExactEvalWrong : ChangeSpec := { name := "fnExactEval", fn := fun _ => fun
  | [d1, d2] => { results := [.lit (.bool false)], args := [d1, d2] }
  | _ => none }
def FnExactEvalWrongFalsely : Prop := fnExactEvalRow.holds Try.pinned (OpenSpec.ofChange fnExactEvalWrong)

/-- 'laws.FnExactUsedBy': WHATEVER THE INPUT: true; the input reads as it did. -/
def fnExactUsedBySpec : ChangeSpec := { name := "fnExactUsedBy", fn := fun _ => fun
  | [d1, d2] => { results := [.lit (.bool true)], args := [d1, d2] }
  | _ => none }
def fnExactUsedByRow : OpenClaim := { program := "ytmpclfjaddjelaa", sum := "7dad3675015db596efdf558e4bf55880baec2d25f336d45c6e1bfe7e5fb53387", func := "loop.example/wholecheck/laws.FnExactUsedBy", spec := "fnExactUsedBy", apart := false }
def FnExactUsedBySaid : Prop := fnExactUsedByRow.holds Try.pinned (OpenSpec.ofChange fnExactUsedBySpec)

/-- ITS FALSE NEIGHBOUR: 'it returns false'. Refute it at one input. -/
def fnExactUsedByWrong : ChangeSpec := { name := "fnExactUsedBy", fn := fun _ => fun
  | [d1, d2] => { results := [.lit (.bool false)], args := [d1, d2] }
  | _ => none }
def FnExactUsedByWrongFalsely : Prop := fnExactUsedByRow.holds Try.pinned (OpenSpec.ofChange fnExactUsedByWrong)

/-- 'laws.FnExactJoined': WHATEVER THE INPUT: true; the input reads as it did. -/
def fnExactJoinedSpec : ChangeSpec := { name := "fnExactJoined", fn := fun _ => fun
  | [d1, d2, d3, d4] => { results := [.lit (.bool true)], args := [d1, d2, d3, d4] }
  | _ => none }
def fnExactJoinedRow : OpenClaim := { program := "ytmpclfjaddjelaa", sum := "7dad3675015db596efdf558e4bf55880baec2d25f336d45c6e1bfe7e5fb53387", func := "loop.example/wholecheck/laws.FnExactJoined", spec := "fnExactJoined", apart := false }
def FnExactJoinedSaid : Prop := fnExactJoinedRow.holds Try.pinned (OpenSpec.ofChange fnExactJoinedSpec)

/-- ITS FALSE NEIGHBOUR: 'it returns false'. Refute it at one input. -/
def fnExactJoinedWrong : ChangeSpec := { name := "fnExactJoined", fn := fun _ => fun
  | [d1, d2, d3, d4] => { results := [.lit (.bool false)], args := [d1, d2, d3, d4] }
  | _ => none }
def FnExactJoinedWrongFalsely : Prop := fnExactJoinedRow.holds Try.pinned (OpenSpec.ofChange fnExactJoinedWrong)

/-- 'laws.FnExactShifted': WHATEVER THE INPUT: true; the input reads as it did. -/
def fnExactShiftedSpec : ChangeSpec := { name := "fnExactShifted", fn := fun _ => fun
  | [d1, d2, d3] => { results := [.lit (.bool true)], args := [d1, d2, d3] }
  | _ => none }
def fnExactShiftedRow : OpenClaim := { program := "ytmpclfjaddjelaa", sum := "7dad3675015db596efdf558e4bf55880baec2d25f336d45c6e1bfe7e5fb53387", func := "loop.example/wholecheck/laws.FnExactShifted", spec := "fnExactShifted", apart := false }
def FnExactShiftedSaid : Prop := fnExactShiftedRow.holds Try.pinned (OpenSpec.ofChange fnExactShiftedSpec)

/-- ITS FALSE NEIGHBOUR: 'it returns false'. Refute it at one input. -/
def fnExactShiftedWrong : ChangeSpec := { name := "fnExactShifted", fn := fun _ => fun
  | [d1, d2, d3] => { results := [.lit (.bool false)], args := [d1, d2, d3] }
  | _ => none }
def FnExactShiftedWrongFalsely : Prop := fnExactShiftedRow.holds Try.pinned (OpenSpec.ofChange fnExactShiftedWrong)

/-- 'laws.FnExactRangeOf': WHATEVER THE INPUT: true; the input reads as it did. -/
def fnExactRangeOfSpec : ChangeSpec := { name := "fnExactRangeOf", fn := fun _ => fun
  | [d1, d2, d3] => { results := [.lit (.bool true)], args := [d1, d2, d3] }
  | _ => none }
def fnExactRangeOfRow : OpenClaim := { program := "ytmpclfjaddjelaa", sum := "7dad3675015db596efdf558e4bf55880baec2d25f336d45c6e1bfe7e5fb53387", func := "loop.example/wholecheck/laws.FnExactRangeOf", spec := "fnExactRangeOf", apart := false }
def FnExactRangeOfSaid : Prop := fnExactRangeOfRow.holds Try.pinned (OpenSpec.ofChange fnExactRangeOfSpec)

/-- ITS FALSE NEIGHBOUR: 'it returns false'. Refute it at one input. -/
def fnExactRangeOfWrong : ChangeSpec := { name := "fnExactRangeOf", fn := fun _ => fun
  | [d1, d2, d3] => { results := [.lit (.bool false)], args := [d1, d2, d3] }
  | _ => none }
def FnExactRangeOfWrongFalsely : Prop := fnExactRangeOfRow.holds Try.pinned (OpenSpec.ofChange fnExactRangeOfWrong)

/- THE SECOND FORM. 'bulk': how many values and letters a reading holds, each counted each time it is reached (what is shared counts as often as it is met; a slice's spare places count too). A statement '..UptoSaid' is the law's where the arguments, and the package variables that the reading takes, are together of bulk at most 1048576: NARROWER than '..Said'. Prove '..Said' where nothing that the law and all that it calls make is longer than what came in: it says more and counts as full. Else prove '..UptoSaid'. A law counts once. -/
mutual
def uptoBulk {H : Type} : DataW H → Nat
  | .lit (.string bytes) => bytes.length + 1
  | .lit _ => 1
  | .nil => 1
  | .ptr d => uptoBulk d + 1
  | .slice elems spare => uptoBulkAll elems + uptoBulkAll spare + 1
  | .agg parts => uptoBulkAll parts + 1
  | .iface _ d => uptoBulk d + 1
  | .map entries => uptoBulkEntries entries + 1
  | .held _ => 1
def uptoBulkAll {H : Type} : List (DataW H) → Nat
  | [] => 0
  | d :: r => uptoBulk d + uptoBulkAll r
def uptoBulkEntries {H : Type} : List (Lit × DataW H) → Nat
  | [] => 0
  | x :: r => uptoBulkEntry x + uptoBulkEntries r
def uptoBulkEntry {H : Type} : Lit × DataW H → Nat
  | (.string bytes, d) => bytes.length + uptoBulk d + 1
  | (_, d) => uptoBulk d + 1
 end
def uptoSmall : (H : Type) → List (DataW H) → Bool := fun _ ds => decide (uptoBulkAll ds ≤ 1048576)
def OpenSpec.upto (s : _root_.Go.ChangeSpec) : _root_.Go.OpenSpec := { _root_.Go.OpenSpec.ofChange s with cond := some uptoSmall }

/-- 'laws.FnEvalRange', WHERE WHAT IT READS IS OF BULK AT MOST 1048576: true; the input reads as it did. -/
def fnEvalRangeUptoRow : OpenClaim := { program := "ytmpclfjaddjelaa", sum := "7dad3675015db596efdf558e4bf55880baec2d25f336d45c6e1bfe7e5fb53387", func := "loop.example/wholecheck/laws.FnEvalRange", spec := "fnEvalRange", apart := false, narrowed := true }
def FnEvalRangeUptoSaid : Prop := fnEvalRangeUptoRow.holds Try.pinned (OpenSpec.upto fnEvalRangeSpec)

/-- 'laws.FnEvalUsed', WHERE WHAT IT READS IS OF BULK AT MOST 1048576: true; the input reads as it did. -/
def fnEvalUsedUptoRow : OpenClaim := { program := "ytmpclfjaddjelaa", sum := "7dad3675015db596efdf558e4bf55880baec2d25f336d45c6e1bfe7e5fb53387", func := "loop.example/wholecheck/laws.FnEvalUsed", spec := "fnEvalUsed", apart := false, narrowed := true }
def FnEvalUsedUptoSaid : Prop := fnEvalUsedUptoRow.holds Try.pinned (OpenSpec.upto fnEvalUsedSpec)

/-- 'laws.FnJoined', WHERE WHAT IT READS IS OF BULK AT MOST 1048576: true; the input reads as it did. -/
def fnJoinedUptoRow : OpenClaim := { program := "ytmpclfjaddjelaa", sum := "7dad3675015db596efdf558e4bf55880baec2d25f336d45c6e1bfe7e5fb53387", func := "loop.example/wholecheck/laws.FnJoined", spec := "fnJoined", apart := false, narrowed := true }
def FnJoinedUptoSaid : Prop := fnJoinedUptoRow.holds Try.pinned (OpenSpec.upto fnJoinedSpec)

/-- 'laws.FnShifted', WHERE WHAT IT READS IS OF BULK AT MOST 1048576: true; the input reads as it did. -/
def fnShiftedUptoRow : OpenClaim := { program := "ytmpclfjaddjelaa", sum := "7dad3675015db596efdf558e4bf55880baec2d25f336d45c6e1bfe7e5fb53387", func := "loop.example/wholecheck/laws.FnShifted", spec := "fnShifted", apart := false, narrowed := true }
def FnShiftedUptoSaid : Prop := fnShiftedUptoRow.holds Try.pinned (OpenSpec.upto fnShiftedSpec)

/-- 'laws.FnExactKindsOf', WHERE WHAT IT READS IS OF BULK AT MOST 1048576: true; the input reads as it did. -/
def fnExactKindsOfUptoRow : OpenClaim := { program := "ytmpclfjaddjelaa", sum := "7dad3675015db596efdf558e4bf55880baec2d25f336d45c6e1bfe7e5fb53387", func := "loop.example/wholecheck/laws.FnExactKindsOf", spec := "fnExactKindsOf", apart := false, narrowed := true }
def FnExactKindsOfUptoSaid : Prop := fnExactKindsOfUptoRow.holds Try.pinned (OpenSpec.upto fnExactKindsOfSpec)

/-- 'laws.FnExactTermsValid', WHERE WHAT IT READS IS OF BULK AT MOST 1048576: true; the input reads as it did. -/
def fnExactTermsValidUptoRow : OpenClaim := { program := "ytmpclfjaddjelaa", sum := "7dad3675015db596efdf558e4bf55880baec2d25f336d45c6e1bfe7e5fb53387", func := "loop.example/wholecheck/laws.FnExactTermsValid", spec := "fnExactTermsValid", apart := false, narrowed := true }
def FnExactTermsValidUptoSaid : Prop := fnExactTermsValidUptoRow.holds Try.pinned (OpenSpec.upto fnExactTermsValidSpec)

/-- 'laws.FnExactEval', WHERE WHAT IT READS IS OF BULK AT MOST 1048576: true; the input reads as it did. -/
def fnExactEvalUptoRow : OpenClaim := { program := "ytmpclfjaddjelaa", sum := "7dad3675015db596efdf558e4bf55880baec2d25f336d45c6e1bfe7e5fb53387", func := "loop.example/wholecheck/laws.FnExactEval", spec := "fnExactEval", apart := false, narrowed := true }
def FnExactEvalUptoSaid : Prop := fnExactEvalUptoRow.holds Try.pinned (OpenSpec.upto fnExactEvalSpec)

/-- 'laws.FnExactUsedBy', WHERE WHAT IT READS IS OF BULK AT MOST 1048576: true; the input reads as it did. -/
def fnExactUsedByUptoRow : OpenClaim := { program := "ytmpclfjaddjelaa", sum := "7dad3675015db596efdf558e4bf55880baec2d25f336d45c6e1bfe7e5fb53387", func := "loop.example/wholecheck/laws.FnExactUsedBy", spec := "fnExactUsedBy", apart := false, narrowed := true }
def FnExactUsedByUptoSaid : Prop := fnExactUsedByUptoRow.holds Try.pinned (OpenSpec.upto fnExactUsedBySpec)

/-- 'laws.FnExactJoined', WHERE WHAT IT READS IS OF BULK AT MOST 1048576: true; the input reads as it did. -/
def fnExactJoinedUptoRow : OpenClaim := { program := "ytmpclfjaddjelaa", sum := "7dad3675015db596efdf558e4bf55880baec2d25f336d45c6e1bfe7e5fb53387", func := "loop.example/wholecheck/laws.FnExactJoined", spec := "fnExactJoined", apart := false, narrowed := true }
def FnExactJoinedUptoSaid : Prop := fnExactJoinedUptoRow.holds Try.pinned (OpenSpec.upto fnExactJoinedSpec)

/-- 'laws.FnExactShifted', WHERE WHAT IT READS IS OF BULK AT MOST 1048576: true; the input reads as it did. -/
def fnExactShiftedUptoRow : OpenClaim := { program := "ytmpclfjaddjelaa", sum := "7dad3675015db596efdf558e4bf55880baec2d25f336d45c6e1bfe7e5fb53387", func := "loop.example/wholecheck/laws.FnExactShifted", spec := "fnExactShifted", apart := false, narrowed := true }
def FnExactShiftedUptoSaid : Prop := fnExactShiftedUptoRow.holds Try.pinned (OpenSpec.upto fnExactShiftedSpec)

/-- 'laws.FnExactRangeOf', WHERE WHAT IT READS IS OF BULK AT MOST 1048576: true; the input reads as it did. -/
def fnExactRangeOfUptoRow : OpenClaim := { program := "ytmpclfjaddjelaa", sum := "7dad3675015db596efdf558e4bf55880baec2d25f336d45c6e1bfe7e5fb53387", func := "loop.example/wholecheck/laws.FnExactRangeOf", spec := "fnExactRangeOf", apart := false, narrowed := true }
def FnExactRangeOfUptoSaid : Prop := fnExactRangeOfUptoRow.holds Try.pinned (OpenSpec.upto fnExactRangeOfSpec)

end Rows
end Go.Proofs.Ytmpclfjaddjelaa
