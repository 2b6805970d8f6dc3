/-
  No cell of these rows narrows 'for every input' (looked for: loops, veiled, ifaces, maps, wideKeys, modest, calm, conditions, laid).
  DERIVED. THE GIVEN ROWS OF THIS SEAT. 10 by the template 'for every input the law returns true; each argument reads behind the call as it read before'; 0 by the template 'total and deterministic' (their statements: YtfkdggiigomgkaaTotals.lean).
  GIVEN WITH THE SEED: the statements are not yours to turn. If you find one false, say at which input.
  Laid BY PROGRAM, IN A SANDBOX (cutbox-rows.mjs): the forced cells as the released guide's own fill.sh prints them over the translation 00b5015c6504579d… (all of the seat's roots in one cut). By AI agents, Wed Nov 11 2026. No macro, syntax, notation, axiom, sorry.
-/
import Derived.Test.YtfkdggiigomgkaaChecked
import GoSem.Claim
import GoSem.ClaimJoined
import GoSem.ClaimMapViews
import Derived.JoinedTies
import Derived.KernelRfl
namespace Go.Proofs.Ytfkdggiigomgkaa
/- THE CELL 'sum', in the pinned program and in every row, IS THE sha256 OF THE DUMP (.gsa) THAT YtfkdggiigomgkaaProg.lean LOADS. Nothing in Lean hashes anything: it is a label: what it is worth is what the hold of that sum in a sandbox is worth. -/
noncomputable def Try.pinned : Pinned := { name := "ytfkdggiigomgkaa", sum := "00b5015c6504579d07b2729b9fa5273a78531dd4ebea1e9781e3581d73e367dc", checked := Try.checked }
namespace Rows
def none {H : Type} : Left H := { results := [], args := [] }

/-- 'laws.FnExactDiagramValid': WHATEVER THE INPUT: true; the input reads as it did. -/
def fnExactDiagramValidSpec : ChangeSpec := { name := "fnExactDiagramValid", fn := fun _ => fun
  | [d] => { results := [.lit (.bool true)], args := [d] }
  | _ => none }
def fnExactDiagramValidRow : OpenClaim := { program := "ytfkdggiigomgkaa", sum := "00b5015c6504579d07b2729b9fa5273a78531dd4ebea1e9781e3581d73e367dc", func := "loop.example/wholecheck/laws.FnExactDiagramValid", spec := "fnExactDiagramValid", plainKeys := false, apart := false }
def FnExactDiagramValidSaid : Prop := fnExactDiagramValidRow.holds Try.pinned (OpenSpec.ofChange fnExactDiagramValidSpec)

/-- ITS FALSE NEIGHBOUR: 'it returns false'. Refute it at one input. -/
def fnExactDiagramValidWrong : ChangeSpec := { name := "fnExactDiagramValid", fn := fun _ => fun
  | [d] => { results := [.lit (.bool false)], args := [d] }
  | _ => none }
def FnExactDiagramValidWrongFalsely : Prop := fnExactDiagramValidRow.holds Try.pinned (OpenSpec.ofChange fnExactDiagramValidWrong)

/-- 'laws.FnExactAddFork': WHATEVER THE INPUT: true; the input reads as it did. -/
def fnExactAddForkSpec : ChangeSpec := { name := "fnExactAddFork", fn := fun _ => fun
  | [d1, d2, d3, d4] => { results := [.lit (.bool true)], args := [d1, d2, d3, d4] }
  | _ => none }
def fnExactAddForkRow : OpenClaim := { program := "ytfkdggiigomgkaa", sum := "00b5015c6504579d07b2729b9fa5273a78531dd4ebea1e9781e3581d73e367dc", func := "loop.example/wholecheck/laws.FnExactAddFork", spec := "fnExactAddFork", plainKeys := false, apart := false }
def FnExactAddForkSaid : Prop := fnExactAddForkRow.holds Try.pinned (OpenSpec.ofChange fnExactAddForkSpec)

/-- ITS FALSE NEIGHBOUR: 'it returns false'. Refute it at one input. -/
def fnExactAddForkWrong : ChangeSpec := { name := "fnExactAddFork", fn := fun _ => fun
  | [d1, d2, d3, d4] => { results := [.lit (.bool false)], args := [d1, d2, d3, d4] }
  | _ => none }
def FnExactAddForkWrongFalsely : Prop := fnExactAddForkRow.holds Try.pinned (OpenSpec.ofChange fnExactAddForkWrong)

/-- 'laws.FnExactDiagramValue': WHATEVER THE INPUT: true; the input reads as it did. -/
def fnExactDiagramValueSpec : ChangeSpec := { name := "fnExactDiagramValue", fn := fun _ => fun
  | [d1, d2, d3] => { results := [.lit (.bool true)], args := [d1, d2, d3] }
  | _ => none }
def fnExactDiagramValueRow : OpenClaim := { program := "ytfkdggiigomgkaa", sum := "00b5015c6504579d07b2729b9fa5273a78531dd4ebea1e9781e3581d73e367dc", func := "loop.example/wholecheck/laws.FnExactDiagramValue", spec := "fnExactDiagramValue", plainKeys := false, apart := false }
def FnExactDiagramValueSaid : Prop := fnExactDiagramValueRow.holds Try.pinned (OpenSpec.ofChange fnExactDiagramValueSpec)

/-- ITS FALSE NEIGHBOUR: 'it returns false'. Refute it at one input. -/
def fnExactDiagramValueWrong : ChangeSpec := { name := "fnExactDiagramValue", fn := fun _ => fun
  | [d1, d2, d3] => { results := [.lit (.bool false)], args := [d1, d2, d3] }
  | _ => none }
def FnExactDiagramValueWrongFalsely : Prop := fnExactDiagramValueRow.holds Try.pinned (OpenSpec.ofChange fnExactDiagramValueWrong)

/-- 'laws.FnExactDiagramNot': WHATEVER THE INPUT: true; the input reads as it did. -/
def fnExactDiagramNotSpec : ChangeSpec := { name := "fnExactDiagramNot", fn := fun _ => fun
  | [d1, d2] => { results := [.lit (.bool true)], args := [d1, d2] }
  | _ => none }
def fnExactDiagramNotRow : OpenClaim := { program := "ytfkdggiigomgkaa", sum := "00b5015c6504579d07b2729b9fa5273a78531dd4ebea1e9781e3581d73e367dc", func := "loop.example/wholecheck/laws.FnExactDiagramNot", spec := "fnExactDiagramNot", recurses := true, plainKeys := false, apart := false }
def FnExactDiagramNotSaid : Prop := fnExactDiagramNotRow.holds Try.pinned (OpenSpec.ofChange fnExactDiagramNotSpec)

/-- ITS FALSE NEIGHBOUR: 'it returns false'. Refute it at one input. -/
def fnExactDiagramNotWrong : ChangeSpec := { name := "fnExactDiagramNot", fn := fun _ => fun
  | [d1, d2] => { results := [.lit (.bool false)], args := [d1, d2] }
  | _ => none }
def FnExactDiagramNotWrongFalsely : Prop := fnExactDiagramNotRow.holds Try.pinned (OpenSpec.ofChange fnExactDiagramNotWrong)

/-- 'laws.FnExactDiagramAnd': WHATEVER THE INPUT: true; the input reads as it did. -/
def fnExactDiagramAndSpec : ChangeSpec := { name := "fnExactDiagramAnd", fn := fun _ => fun
  | [d1, d2, d3] => { results := [.lit (.bool true)], args := [d1, d2, d3] }
  | _ => none }
def fnExactDiagramAndRow : OpenClaim := { program := "ytfkdggiigomgkaa", sum := "00b5015c6504579d07b2729b9fa5273a78531dd4ebea1e9781e3581d73e367dc", func := "loop.example/wholecheck/laws.FnExactDiagramAnd", spec := "fnExactDiagramAnd", recurses := true, plainKeys := false, apart := false }
def FnExactDiagramAndSaid : Prop := fnExactDiagramAndRow.holds Try.pinned (OpenSpec.ofChange fnExactDiagramAndSpec)

/-- ITS FALSE NEIGHBOUR: 'it returns false'. Refute it at one input. -/
def fnExactDiagramAndWrong : ChangeSpec := { name := "fnExactDiagramAnd", fn := fun _ => fun
  | [d1, d2, d3] => { results := [.lit (.bool false)], args := [d1, d2, d3] }
  | _ => none }
def FnExactDiagramAndWrongFalsely : Prop := fnExactDiagramAndRow.holds Try.pinned (OpenSpec.ofChange fnExactDiagramAndWrong)

/-- 'laws.FnExactDiagramOr': WHATEVER THE INPUT: true; the input reads as it did. -/
def fnExactDiagramOrSpec : ChangeSpec := { name := "fnExactDiagramOr", fn := fun _ => fun
  | [d1, d2, d3] => { results := [.lit (.bool true)], args := [d1, d2, d3] }
  | _ => none }
def fnExactDiagramOrRow : OpenClaim := { program := "ytfkdggiigomgkaa", sum := "00b5015c6504579d07b2729b9fa5273a78531dd4ebea1e9781e3581d73e367dc", func := "loop.example/wholecheck/laws.FnExactDiagramOr", spec := "fnExactDiagramOr", recurses := true, plainKeys := false, apart := false }
def FnExactDiagramOrSaid : Prop := fnExactDiagramOrRow.holds Try.pinned (OpenSpec.ofChange fnExactDiagramOrSpec)

/-- ITS FALSE NEIGHBOUR: 'it returns false'. Refute it at one input. -/
def fnExactDiagramOrWrong : ChangeSpec := { name := "fnExactDiagramOr", fn := fun _ => fun
  | [d1, d2, d3] => { results := [.lit (.bool false)], args := [d1, d2, d3] }
  | _ => none }
def FnExactDiagramOrWrongFalsely : Prop := fnExactDiagramOrRow.holds Try.pinned (OpenSpec.ofChange fnExactDiagramOrWrong)

/-- 'laws.FnExactDiagramFix': WHATEVER THE INPUT: true; the input reads as it did. -/
def fnExactDiagramFixSpec : ChangeSpec := { name := "fnExactDiagramFix", fn := fun _ => fun
  | [d1, d2, d3, d4] => { results := [.lit (.bool true)], args := [d1, d2, d3, d4] }
  | _ => none }
def fnExactDiagramFixRow : OpenClaim := { program := "ytfkdggiigomgkaa", sum := "00b5015c6504579d07b2729b9fa5273a78531dd4ebea1e9781e3581d73e367dc", func := "loop.example/wholecheck/laws.FnExactDiagramFix", spec := "fnExactDiagramFix", recurses := true, plainKeys := false, apart := false }
def FnExactDiagramFixSaid : Prop := fnExactDiagramFixRow.holds Try.pinned (OpenSpec.ofChange fnExactDiagramFixSpec)

/-- ITS FALSE NEIGHBOUR: 'it returns false'. Refute it at one input. -/
def fnExactDiagramFixWrong : ChangeSpec := { name := "fnExactDiagramFix", fn := fun _ => fun
  | [d1, d2, d3, d4] => { results := [.lit (.bool false)], args := [d1, d2, d3, d4] }
  | _ => none }
def FnExactDiagramFixWrongFalsely : Prop := fnExactDiagramFixRow.holds Try.pinned (OpenSpec.ofChange fnExactDiagramFixWrong)

/-- 'laws.FnExactDiagramSome': WHATEVER THE INPUT: true; the input reads as it did. -/
def fnExactDiagramSomeSpec : ChangeSpec := { name := "fnExactDiagramSome", fn := fun _ => fun
  | [d1, d2, d3] => { results := [.lit (.bool true)], args := [d1, d2, d3] }
  | _ => none }
def fnExactDiagramSomeRow : OpenClaim := { program := "ytfkdggiigomgkaa", sum := "00b5015c6504579d07b2729b9fa5273a78531dd4ebea1e9781e3581d73e367dc", func := "loop.example/wholecheck/laws.FnExactDiagramSome", spec := "fnExactDiagramSome", recurses := true, plainKeys := false, apart := false }
def FnExactDiagramSomeSaid : Prop := fnExactDiagramSomeRow.holds Try.pinned (OpenSpec.ofChange fnExactDiagramSomeSpec)

/-- ITS FALSE NEIGHBOUR: 'it returns false'. Refute it at one input. -/
def fnExactDiagramSomeWrong : ChangeSpec := { name := "fnExactDiagramSome", fn := fun _ => fun
  | [d1, d2, d3] => { results := [.lit (.bool false)], args := [d1, d2, d3] }
  | _ => none }
def FnExactDiagramSomeWrongFalsely : Prop := fnExactDiagramSomeRow.holds Try.pinned (OpenSpec.ofChange fnExactDiagramSomeWrong)

/-- 'laws.FnExactDiagramCount': WHATEVER THE INPUT: true; the input reads as it did. -/
def fnExactDiagramCountSpec : ChangeSpec := { name := "fnExactDiagramCount", fn := fun _ => fun
  | [d1, d2] => { results := [.lit (.bool true)], args := [d1, d2] }
  | _ => none }
def fnExactDiagramCountRow : OpenClaim := { program := "ytfkdggiigomgkaa", sum := "00b5015c6504579d07b2729b9fa5273a78531dd4ebea1e9781e3581d73e367dc", func := "loop.example/wholecheck/laws.FnExactDiagramCount", spec := "fnExactDiagramCount", recurses := true, plainKeys := false, apart := false }
def FnExactDiagramCountSaid : Prop := fnExactDiagramCountRow.holds Try.pinned (OpenSpec.ofChange fnExactDiagramCountSpec)

/-- ITS FALSE NEIGHBOUR: 'it returns false'. Refute it at one input. -/
def fnExactDiagramCountWrong : ChangeSpec := { name := "fnExactDiagramCount", fn := fun _ => fun
  | [d1, d2] => { results := [.lit (.bool false)], args := [d1, d2] }
  | _ => none }
def FnExactDiagramCountWrongFalsely : Prop := fnExactDiagramCountRow.holds Try.pinned (OpenSpec.ofChange fnExactDiagramCountWrong)

/-- 'laws.FnExactDiagramRow': WHATEVER THE INPUT: true; the input reads as it did. -/
def fnExactDiagramRowSpec : ChangeSpec := { name := "fnExactDiagramRow", fn := fun _ => fun
  | [d1, d2] => { results := [.lit (.bool true)], args := [d1, d2] }
  | _ => none }
def fnExactDiagramRowRow : OpenClaim := { program := "ytfkdggiigomgkaa", sum := "00b5015c6504579d07b2729b9fa5273a78531dd4ebea1e9781e3581d73e367dc", func := "loop.example/wholecheck/laws.FnExactDiagramRow", spec := "fnExactDiagramRow", plainKeys := false, apart := false }
def FnExactDiagramRowSaid : Prop := fnExactDiagramRowRow.holds Try.pinned (OpenSpec.ofChange fnExactDiagramRowSpec)

/-- ITS FALSE NEIGHBOUR: 'it returns false'. Refute it at one input. -/
def fnExactDiagramRowWrong : ChangeSpec := { name := "fnExactDiagramRow", fn := fun _ => fun
  | [d1, d2] => { results := [.lit (.bool false)], args := [d1, d2] }
  | _ => none }
def FnExactDiagramRowWrongFalsely : Prop := fnExactDiagramRowRow.holds Try.pinned (OpenSpec.ofChange fnExactDiagramRowWrong)

/- THE SECOND FORM. 'bulk': how many values and letters a reading holds, each counted each time it is reached (what is shared counts as often as it is met; a slice's spare places count too). A statement '..UptoSaid' is the law's where the arguments, and the package variables that the reading takes, are together of bulk at most 1048576: NARROWER than '..Said'. Prove '..Said' where nothing that the law and all that it calls make is longer than what came in: it says more and counts as full. Else prove '..UptoSaid'. A law counts once. -/
mutual
def uptoBulk {H : Type} : DataW H → Nat
  | .lit (.string bytes) => bytes.length + 1
  | .lit _ => 1
  | .nil => 1
  | .ptr d => uptoBulk d + 1
  | .slice elems spare => uptoBulkAll elems + uptoBulkAll spare + 1
  | .agg parts => uptoBulkAll parts + 1
  | .iface _ d => uptoBulk d + 1
  | .map entries => uptoBulkEntries entries + 1
  | .held _ => 1
def uptoBulkAll {H : Type} : List (DataW H) → Nat
  | [] => 0
  | d :: r => uptoBulk d + uptoBulkAll r
def uptoBulkEntries {H : Type} : List (Lit × DataW H) → Nat
  | [] => 0
  | x :: r => uptoBulkEntry x + uptoBulkEntries r
def uptoBulkEntry {H : Type} : Lit × DataW H → Nat
  | (.string bytes, d) => bytes.length + uptoBulk d + 1
  | (_, d) => uptoBulk d + 1
 end
def uptoSmall : (H : Type) → List (DataW H) → Bool := fun _ ds => decide (uptoBulkAll ds ≤ 1048576)
def OpenSpec.upto (s : _root_.Go.ChangeSpec) : _root_.Go.OpenSpec := { _root_.Go.OpenSpec.ofChange s with cond := some uptoSmall }

/-- 'laws.FnExactDiagramValid', WHERE WHAT IT READS IS OF BULK AT MOST 1048576: true; the input reads as it did. -/
def fnExactDiagramValidUptoRow : OpenClaim := { program := "ytfkdggiigomgkaa", sum := "00b5015c6504579d07b2729b9fa5273a78531dd4ebea1e9781e3581d73e367dc", func := "loop.example/wholecheck/laws.FnExactDiagramValid", spec := "fnExactDiagramValid", plainKeys := false, apart := false, narrowed := true }
def FnExactDiagramValidUptoSaid : Prop := fnExactDiagramValidUptoRow.holds Try.pinned (OpenSpec.upto fnExactDiagramValidSpec)

/-- 'laws.FnExactAddFork', WHERE WHAT IT READS IS OF BULK AT MOST 1048576: true; the input reads as it did. -/
def fnExactAddForkUptoRow : OpenClaim := { program := "ytfkdggiigomgkaa", sum := "00b5015c6504579d07b2729b9fa5273a78531dd4ebea1e9781e3581d73e367dc", func := "loop.example/wholecheck/laws.FnExactAddFork", spec := "fnExactAddFork", plainKeys := false, apart := false, narrowed := true }
def FnExactAddForkUptoSaid : Prop := fnExactAddForkUptoRow.holds Try.pinned (OpenSpec.upto fnExactAddForkSpec)

/-- 'laws.FnExactDiagramValue', WHERE WHAT IT READS IS OF BULK AT MOST 1048576: true; the input reads as it did. -/
def fnExactDiagramValueUptoRow : OpenClaim := { program := "ytfkdggiigomgkaa", sum := "00b5015c6504579d07b2729b9fa5273a78531dd4ebea1e9781e3581d73e367dc", func := "loop.example/wholecheck/laws.FnExactDiagramValue", spec := "fnExactDiagramValue", plainKeys := false, apart := false, narrowed := true }
def FnExactDiagramValueUptoSaid : Prop := fnExactDiagramValueUptoRow.holds Try.pinned (OpenSpec.upto fnExactDiagramValueSpec)

/-- 'laws.FnExactDiagramNot', WHERE WHAT IT READS IS OF BULK AT MOST 1048576: true; the input reads as it did. -/
def fnExactDiagramNotUptoRow : OpenClaim := { program := "ytfkdggiigomgkaa", sum := "00b5015c6504579d07b2729b9fa5273a78531dd4ebea1e9781e3581d73e367dc", func := "loop.example/wholecheck/laws.FnExactDiagramNot", spec := "fnExactDiagramNot", recurses := true, plainKeys := false, apart := false, narrowed := true }
def FnExactDiagramNotUptoSaid : Prop := fnExactDiagramNotUptoRow.holds Try.pinned (OpenSpec.upto fnExactDiagramNotSpec)

/-- 'laws.FnExactDiagramAnd', WHERE WHAT IT READS IS OF BULK AT MOST 1048576: true; the input reads as it did. -/
def fnExactDiagramAndUptoRow : OpenClaim := { program := "ytfkdggiigomgkaa", sum := "00b5015c6504579d07b2729b9fa5273a78531dd4ebea1e9781e3581d73e367dc", func := "loop.example/wholecheck/laws.FnExactDiagramAnd", spec := "fnExactDiagramAnd", recurses := true, plainKeys := false, apart := false, narrowed := true }
def FnExactDiagramAndUptoSaid : Prop := fnExactDiagramAndUptoRow.holds Try.pinned (OpenSpec.upto fnExactDiagramAndSpec)

/-- 'laws.FnExactDiagramOr', WHERE WHAT IT READS IS OF BULK AT MOST 1048576: true; the input reads as it did. -/
def fnExactDiagramOrUptoRow : OpenClaim := { program := "ytfkdggiigomgkaa", sum := "00b5015c6504579d07b2729b9fa5273a78531dd4ebea1e9781e3581d73e367dc", func := "loop.example/wholecheck/laws.FnExactDiagramOr", spec := "fnExactDiagramOr", recurses := true, plainKeys := false, apart := false, narrowed := true }
def FnExactDiagramOrUptoSaid : Prop := fnExactDiagramOrUptoRow.holds Try.pinned (OpenSpec.upto fnExactDiagramOrSpec)

/-- 'laws.FnExactDiagramFix', WHERE WHAT IT READS IS OF BULK AT MOST 1048576: true; the input reads as it did. -/
def fnExactDiagramFixUptoRow : OpenClaim := { program := "ytfkdggiigomgkaa", sum := "00b5015c6504579d07b2729b9fa5273a78531dd4ebea1e9781e3581d73e367dc", func := "loop.example/wholecheck/laws.FnExactDiagramFix", spec := "fnExactDiagramFix", recurses := true, plainKeys := false, apart := false, narrowed := true }
def FnExactDiagramFixUptoSaid : Prop := fnExactDiagramFixUptoRow.holds Try.pinned (OpenSpec.upto fnExactDiagramFixSpec)

/-- 'laws.FnExactDiagramSome', WHERE WHAT IT READS IS OF BULK AT MOST 1048576: true; the input reads as it did. -/
def fnExactDiagramSomeUptoRow : OpenClaim := { program := "ytfkdggiigomgkaa", sum := "00b5015c6504579d07b2729b9fa5273a78531dd4ebea1e9781e3581d73e367dc", func := "loop.example/wholecheck/laws.FnExactDiagramSome", spec := "fnExactDiagramSome", recurses := true, plainKeys := false, apart := false, narrowed := true }
def FnExactDiagramSomeUptoSaid : Prop := fnExactDiagramSomeUptoRow.holds Try.pinned (OpenSpec.upto fnExactDiagramSomeSpec)

/-- 'laws.FnExactDiagramCount', WHERE WHAT IT READS IS OF BULK AT MOST 1048576: true; the input reads as it did. -/
def fnExactDiagramCountUptoRow : OpenClaim := { program := "ytfkdggiigomgkaa", sum := "00b5015c6504579d07b2729b9fa5273a78531dd4ebea1e9781e3581d73e367dc", func := "loop.example/wholecheck/laws.FnExactDiagramCount", spec := "fnExactDiagramCount", recurses := true, plainKeys := false, apart := false, narrowed := true }
def FnExactDiagramCountUptoSaid : Prop := fnExactDiagramCountUptoRow.holds Try.pinned (OpenSpec.upto fnExactDiagramCountSpec)

/-- 'laws.FnExactDiagramRow', WHERE WHAT IT READS IS OF BULK AT MOST 1048576: true; the input reads as it did. -/
def fnExactDiagramRowUptoRow : OpenClaim := { program := "ytfkdggiigomgkaa", sum := "00b5015c6504579d07b2729b9fa5273a78531dd4ebea1e9781e3581d73e367dc", func := "loop.example/wholecheck/laws.FnExactDiagramRow", spec := "fnExactDiagramRow", plainKeys := false, apart := false, narrowed := true }
def FnExactDiagramRowUptoSaid : Prop := fnExactDiagramRowUptoRow.holds Try.pinned (OpenSpec.upto fnExactDiagramRowSpec)

end Rows
end Go.Proofs.Ytfkdggiigomgkaa
