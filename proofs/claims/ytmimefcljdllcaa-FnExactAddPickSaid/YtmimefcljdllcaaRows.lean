/-
  No cell of these rows narrows 'for every input' (looked for: loops, veiled, ifaces, maps, wideKeys, modest, calm, conditions, laid).
  DERIVED. THE GIVEN ROWS OF THIS SEAT. 8 by the template 'for every input the law returns true; each argument reads behind the call as it read before'; 0 by the template 'total and deterministic' (their statements: YtmimefcljdllcaaTotals.lean).
  GIVEN WITH THE SEED: the statements are not yours to turn. If you find one false, say at which input.
  Laid BY PROGRAM, IN A SANDBOX (cutbox-rows.mjs): the forced cells as the released guide's own fill.sh prints them over the translation 50372f7de187e6c6… (all of the seat's roots in one cut). By AI agents, Wed Nov 11 2026. No macro, syntax, notation, axiom, sorry.
-/
import Derived.Test.YtmimefcljdllcaaChecked
import GoSem.Claim
import GoSem.ClaimJoined
import GoSem.ClaimMapViews
import Derived.JoinedTies
import Derived.KernelRfl
namespace Go.Proofs.Ytmimefcljdllcaa
/- THE CELL 'sum', in the pinned program and in every row, IS THE sha256 OF THE DUMP (.gsa) THAT YtmimefcljdllcaaProg.lean LOADS. Nothing in Lean hashes anything: it is a label: what it is worth is what the hold of that sum in a sandbox is worth. -/
noncomputable def Try.pinned : Pinned := { name := "ytmimefcljdllcaa", sum := "50372f7de187e6c658478f128e8cb123d8c070441ae66dfd5ec103d037f86d14", checked := Try.checked }
namespace Rows
def none {H : Type} : Left H := { results := [], args := [] }

/-- 'laws.FnExactCircuitValid': WHATEVER THE INPUT: true; the input reads as it did. -/
def fnExactCircuitValidSpec : ChangeSpec := { name := "fnExactCircuitValid", fn := fun _ => fun
  | [d] => { results := [.lit (.bool true)], args := [d] }
  | _ => none }
def fnExactCircuitValidRow : OpenClaim := { program := "ytmimefcljdllcaa", sum := "50372f7de187e6c658478f128e8cb123d8c070441ae66dfd5ec103d037f86d14", func := "loop.example/wholecheck/laws.FnExactCircuitValid", spec := "fnExactCircuitValid", plainKeys := false, apart := false }
def FnExactCircuitValidSaid : Prop := fnExactCircuitValidRow.holds Try.pinned (OpenSpec.ofChange fnExactCircuitValidSpec)

/-- ITS FALSE NEIGHBOUR: 'it returns false'. Refute it at one input. -/
def fnExactCircuitValidWrong : ChangeSpec := { name := "fnExactCircuitValid", fn := fun _ => fun
  | [d] => { results := [.lit (.bool false)], args := [d] }
  | _ => none }
def FnExactCircuitValidWrongFalsely : Prop := fnExactCircuitValidRow.holds Try.pinned (OpenSpec.ofChange fnExactCircuitValidWrong)

/-- 'laws.FnExactNodeValues': WHATEVER THE INPUT: true; the input reads as it did. -/
def fnExactNodeValuesSpec : ChangeSpec := { name := "fnExactNodeValues", fn := fun _ => fun
  | [d1, d2] => { results := [.lit (.bool true)], args := [d1, d2] }
  | _ => none }
def fnExactNodeValuesRow : OpenClaim := { program := "ytmimefcljdllcaa", sum := "50372f7de187e6c658478f128e8cb123d8c070441ae66dfd5ec103d037f86d14", func := "loop.example/wholecheck/laws.FnExactNodeValues", spec := "fnExactNodeValues", plainKeys := false, apart := false }
def FnExactNodeValuesSaid : Prop := fnExactNodeValuesRow.holds Try.pinned (OpenSpec.ofChange fnExactNodeValuesSpec)

/-- ITS FALSE NEIGHBOUR: 'it returns false'. Refute it at one input. -/
def fnExactNodeValuesWrong : ChangeSpec := { name := "fnExactNodeValues", fn := fun _ => fun
  | [d1, d2] => { results := [.lit (.bool false)], args := [d1, d2] }
  | _ => none }
def FnExactNodeValuesWrongFalsely : Prop := fnExactNodeValuesRow.holds Try.pinned (OpenSpec.ofChange fnExactNodeValuesWrong)

/-- 'laws.FnExactEdgeValue': WHATEVER THE INPUT: true; the input reads as it did. -/
def fnExactEdgeValueSpec : ChangeSpec := { name := "fnExactEdgeValue", fn := fun _ => fun
  | [d1, d2, d3] => { results := [.lit (.bool true)], args := [d1, d2, d3] }
  | _ => none }
def fnExactEdgeValueRow : OpenClaim := { program := "ytmimefcljdllcaa", sum := "50372f7de187e6c658478f128e8cb123d8c070441ae66dfd5ec103d037f86d14", func := "loop.example/wholecheck/laws.FnExactEdgeValue", spec := "fnExactEdgeValue", plainKeys := false, apart := false }
def FnExactEdgeValueSaid : Prop := fnExactEdgeValueRow.holds Try.pinned (OpenSpec.ofChange fnExactEdgeValueSpec)

/-- ITS FALSE NEIGHBOUR: 'it returns false'. Refute it at one input. -/
def fnExactEdgeValueWrong : ChangeSpec := { name := "fnExactEdgeValue", fn := fun _ => fun
  | [d1, d2, d3] => { results := [.lit (.bool false)], args := [d1, d2, d3] }
  | _ => none }
def FnExactEdgeValueWrongFalsely : Prop := fnExactEdgeValueRow.holds Try.pinned (OpenSpec.ofChange fnExactEdgeValueWrong)

/-- 'laws.FnExactAddAnd': WHATEVER THE INPUT: true; the input reads as it did. -/
def fnExactAddAndSpec : ChangeSpec := { name := "fnExactAddAnd", fn := fun _ => fun
  | [d1, d2, d3] => { results := [.lit (.bool true)], args := [d1, d2, d3] }
  | _ => none }
def fnExactAddAndRow : OpenClaim := { program := "ytmimefcljdllcaa", sum := "50372f7de187e6c658478f128e8cb123d8c070441ae66dfd5ec103d037f86d14", func := "loop.example/wholecheck/laws.FnExactAddAnd", spec := "fnExactAddAnd", plainKeys := false, apart := false }
def FnExactAddAndSaid : Prop := fnExactAddAndRow.holds Try.pinned (OpenSpec.ofChange fnExactAddAndSpec)

/-- ITS FALSE NEIGHBOUR: 'it returns false'. Refute it at one input. -/
def fnExactAddAndWrong : ChangeSpec := { name := "fnExactAddAnd", fn := fun _ => fun
  | [d1, d2, d3] => { results := [.lit (.bool false)], args := [d1, d2, d3] }
  | _ => none }
def FnExactAddAndWrongFalsely : Prop := fnExactAddAndRow.holds Try.pinned (OpenSpec.ofChange fnExactAddAndWrong)

/-- 'laws.FnExactAddOr': WHATEVER THE INPUT: true; the input reads as it did. -/
def fnExactAddOrSpec : ChangeSpec := { name := "fnExactAddOr", fn := fun _ => fun
  | [d1, d2, d3] => { results := [.lit (.bool true)], args := [d1, d2, d3] }
  | _ => none }
def fnExactAddOrRow : OpenClaim := { program := "ytmimefcljdllcaa", sum := "50372f7de187e6c658478f128e8cb123d8c070441ae66dfd5ec103d037f86d14", func := "loop.example/wholecheck/laws.FnExactAddOr", spec := "fnExactAddOr", plainKeys := false, apart := false }
def FnExactAddOrSaid : Prop := fnExactAddOrRow.holds Try.pinned (OpenSpec.ofChange fnExactAddOrSpec)

/-- ITS FALSE NEIGHBOUR: 'it returns false'. Refute it at one input. -/
def fnExactAddOrWrong : ChangeSpec := { name := "fnExactAddOr", fn := fun _ => fun
  | [d1, d2, d3] => { results := [.lit (.bool false)], args := [d1, d2, d3] }
  | _ => none }
def FnExactAddOrWrongFalsely : Prop := fnExactAddOrRow.holds Try.pinned (OpenSpec.ofChange fnExactAddOrWrong)

/-- 'laws.FnExactAddPick': WHATEVER THE INPUT: true; the input reads as it did. -/
def fnExactAddPickSpec : ChangeSpec := { name := "fnExactAddPick", fn := fun _ => fun
  | [d1, d2, d3, d4] => { results := [.lit (.bool true)], args := [d1, d2, d3, d4] }
  | _ => none }
def fnExactAddPickRow : OpenClaim := { program := "ytmimefcljdllcaa", sum := "50372f7de187e6c658478f128e8cb123d8c070441ae66dfd5ec103d037f86d14", func := "loop.example/wholecheck/laws.FnExactAddPick", spec := "fnExactAddPick", plainKeys := false, apart := false }
def FnExactAddPickSaid : Prop := fnExactAddPickRow.holds Try.pinned (OpenSpec.ofChange fnExactAddPickSpec)

/-- ITS FALSE NEIGHBOUR: 'it returns false'. Refute it at one input. -/
def fnExactAddPickWrong : ChangeSpec := { name := "fnExactAddPick", fn := fun _ => fun
  | [d1, d2, d3, d4] => { results := [.lit (.bool false)], args := [d1, d2, d3, d4] }
  | _ => none }
def FnExactAddPickWrongFalsely : Prop := fnExactAddPickRow.holds Try.pinned (OpenSpec.ofChange fnExactAddPickWrong)

/-- 'laws.FnExactNeedsInputs': WHATEVER THE INPUT: true; the input reads as it did. -/
def fnExactNeedsInputsSpec : ChangeSpec := { name := "fnExactNeedsInputs", fn := fun _ => fun
  | [d1, d2] => { results := [.lit (.bool true)], args := [d1, d2] }
  | _ => none }
def fnExactNeedsInputsRow : OpenClaim := { program := "ytmimefcljdllcaa", sum := "50372f7de187e6c658478f128e8cb123d8c070441ae66dfd5ec103d037f86d14", func := "loop.example/wholecheck/laws.FnExactNeedsInputs", spec := "fnExactNeedsInputs", unfollowed := true, recurses := true, plainKeys := false, apart := false }
def FnExactNeedsInputsSaid : Prop := fnExactNeedsInputsRow.holds Try.pinned (OpenSpec.ofChange fnExactNeedsInputsSpec)

/-- ITS FALSE NEIGHBOUR: 'it returns false'. Refute it at one input. -/
def fnExactNeedsInputsWrong : ChangeSpec := { name := "fnExactNeedsInputs", fn := fun _ => fun
  | [d1, d2] => { results := [.lit (.bool false)], args := [d1, d2] }
  | _ => none }
def FnExactNeedsInputsWrongFalsely : Prop := fnExactNeedsInputsRow.holds Try.pinned (OpenSpec.ofChange fnExactNeedsInputsWrong)

/-- 'laws.FnExactFixed': WHATEVER THE INPUT: true; the input reads as it did. -/
def fnExactFixedSpec : ChangeSpec := { name := "fnExactFixed", fn := fun _ => fun
  | [d1, d2, d3, d4] => { results := [.lit (.bool true)], args := [d1, d2, d3, d4] }
  | _ => none }
def fnExactFixedRow : OpenClaim := { program := "ytmimefcljdllcaa", sum := "50372f7de187e6c658478f128e8cb123d8c070441ae66dfd5ec103d037f86d14", func := "loop.example/wholecheck/laws.FnExactFixed", spec := "fnExactFixed", plainKeys := false, apart := false }
def FnExactFixedSaid : Prop := fnExactFixedRow.holds Try.pinned (OpenSpec.ofChange fnExactFixedSpec)

/-- ITS FALSE NEIGHBOUR: 'it returns false'. Refute it at one input. -/
def fnExactFixedWrong : ChangeSpec := { name := "fnExactFixed", fn := fun _ => fun
  | [d1, d2, d3, d4] => { results := [.lit (.bool false)], args := [d1, d2, d3, d4] }
  | _ => none }
def FnExactFixedWrongFalsely : Prop := fnExactFixedRow.holds Try.pinned (OpenSpec.ofChange fnExactFixedWrong)

/- THE SECOND FORM. 'bulk': how many values and letters a reading holds, each counted each time it is reached (what is shared counts as often as it is met; a slice's spare places count too). A statement '..UptoSaid' is the law's where the arguments, and the package variables that the reading takes, are together of bulk at most 1048576: NARROWER than '..Said'. Prove '..Said' where nothing that the law and all that it calls make is longer than what came in: it says more and counts as full. Else prove '..UptoSaid'. A law counts once. -/
mutual
def uptoBulk {H : Type} : DataW H → Nat
  | .lit (.string bytes) => bytes.length + 1
  | .lit _ => 1
  | .nil => 1
  | .ptr d => uptoBulk d + 1
  | .slice elems spare => uptoBulkAll elems + uptoBulkAll spare + 1
  | .agg parts => uptoBulkAll parts + 1
  | .iface _ d => uptoBulk d + 1
  | .map entries => uptoBulkEntries entries + 1
  | .held _ => 1
def uptoBulkAll {H : Type} : List (DataW H) → Nat
  | [] => 0
  | d :: r => uptoBulk d + uptoBulkAll r
def uptoBulkEntries {H : Type} : List (Lit × DataW H) → Nat
  | [] => 0
  | x :: r => uptoBulkEntry x + uptoBulkEntries r
def uptoBulkEntry {H : Type} : Lit × DataW H → Nat
  | (.string bytes, d) => bytes.length + uptoBulk d + 1
  | (_, d) => uptoBulk d + 1
 end
def uptoSmall : (H : Type) → List (DataW H) → Bool := fun _ ds => decide (uptoBulkAll ds ≤ 1048576)
def OpenSpec.upto (s : _root_.Go.ChangeSpec) : _root_.Go.OpenSpec := { _root_.Go.OpenSpec.ofChange s with cond := some uptoSmall }

/-- 'laws.FnExactCircuitValid', WHERE WHAT IT READS IS OF BULK AT MOST 1048576: true; the input reads as it did. -/
def fnExactCircuitValidUptoRow : OpenClaim := { program := "ytmimefcljdllcaa", sum := "50372f7de187e6c658478f128e8cb123d8c070441ae66dfd5ec103d037f86d14", func := "loop.example/wholecheck/laws.FnExactCircuitValid", spec := "fnExactCircuitValid", plainKeys := false, apart := false, narrowed := true }
def FnExactCircuitValidUptoSaid : Prop := fnExactCircuitValidUptoRow.holds Try.pinned (OpenSpec.upto fnExactCircuitValidSpec)

/-- 'laws.FnExactNodeValues', WHERE WHAT IT READS IS OF BULK AT MOST 1048576: true; the input reads as it did. -/
def fnExactNodeValuesUptoRow : OpenClaim := { program := "ytmimefcljdllcaa", sum := "50372f7de187e6c658478f128e8cb123d8c070441ae66dfd5ec103d037f86d14", func := "loop.example/wholecheck/laws.FnExactNodeValues", spec := "fnExactNodeValues", plainKeys := false, apart := false, narrowed := true }
def FnExactNodeValuesUptoSaid : Prop := fnExactNodeValuesUptoRow.holds Try.pinned (OpenSpec.upto fnExactNodeValuesSpec)

/-- 'laws.FnExactEdgeValue', WHERE WHAT IT READS IS OF BULK AT MOST 1048576: true; the input reads as it did. -/
def fnExactEdgeValueUptoRow : OpenClaim := { program := "ytmimefcljdllcaa", sum := "50372f7de187e6c658478f128e8cb123d8c070441ae66dfd5ec103d037f86d14", func := "loop.example/wholecheck/laws.FnExactEdgeValue", spec := "fnExactEdgeValue", plainKeys := false, apart := false, narrowed := true }
def FnExactEdgeValueUptoSaid : Prop := fnExactEdgeValueUptoRow.holds Try.pinned (OpenSpec.upto fnExactEdgeValueSpec)

/-- 'laws.FnExactAddAnd', WHERE WHAT IT READS IS OF BULK AT MOST 1048576: true; the input reads as it did. -/
def fnExactAddAndUptoRow : OpenClaim := { program := "ytmimefcljdllcaa", sum := "50372f7de187e6c658478f128e8cb123d8c070441ae66dfd5ec103d037f86d14", func := "loop.example/wholecheck/laws.FnExactAddAnd", spec := "fnExactAddAnd", plainKeys := false, apart := false, narrowed := true }
def FnExactAddAndUptoSaid : Prop := fnExactAddAndUptoRow.holds Try.pinned (OpenSpec.upto fnExactAddAndSpec)

/-- 'laws.FnExactAddOr', WHERE WHAT IT READS IS OF BULK AT MOST 1048576: true; the input reads as it did. -/
def fnExactAddOrUptoRow : OpenClaim := { program := "ytmimefcljdllcaa", sum := "50372f7de187e6c658478f128e8cb123d8c070441ae66dfd5ec103d037f86d14", func := "loop.example/wholecheck/laws.FnExactAddOr", spec := "fnExactAddOr", plainKeys := false, apart := false, narrowed := true }
def FnExactAddOrUptoSaid : Prop := fnExactAddOrUptoRow.holds Try.pinned (OpenSpec.upto fnExactAddOrSpec)

/-- 'laws.FnExactAddPick', WHERE WHAT IT READS IS OF BULK AT MOST 1048576: true; the input reads as it did. -/
def fnExactAddPickUptoRow : OpenClaim := { program := "ytmimefcljdllcaa", sum := "50372f7de187e6c658478f128e8cb123d8c070441ae66dfd5ec103d037f86d14", func := "loop.example/wholecheck/laws.FnExactAddPick", spec := "fnExactAddPick", plainKeys := false, apart := false, narrowed := true }
def FnExactAddPickUptoSaid : Prop := fnExactAddPickUptoRow.holds Try.pinned (OpenSpec.upto fnExactAddPickSpec)

/-- 'laws.FnExactNeedsInputs', WHERE WHAT IT READS IS OF BULK AT MOST 1048576: true; the input reads as it did. -/
def fnExactNeedsInputsUptoRow : OpenClaim := { program := "ytmimefcljdllcaa", sum := "50372f7de187e6c658478f128e8cb123d8c070441ae66dfd5ec103d037f86d14", func := "loop.example/wholecheck/laws.FnExactNeedsInputs", spec := "fnExactNeedsInputs", unfollowed := true, recurses := true, plainKeys := false, apart := false, narrowed := true }
def FnExactNeedsInputsUptoSaid : Prop := fnExactNeedsInputsUptoRow.holds Try.pinned (OpenSpec.upto fnExactNeedsInputsSpec)

/-- 'laws.FnExactFixed', WHERE WHAT IT READS IS OF BULK AT MOST 1048576: true; the input reads as it did. -/
def fnExactFixedUptoRow : OpenClaim := { program := "ytmimefcljdllcaa", sum := "50372f7de187e6c658478f128e8cb123d8c070441ae66dfd5ec103d037f86d14", func := "loop.example/wholecheck/laws.FnExactFixed", spec := "fnExactFixed", plainKeys := false, apart := false, narrowed := true }
def FnExactFixedUptoSaid : Prop := fnExactFixedUptoRow.holds Try.pinned (OpenSpec.upto fnExactFixedSpec)

end Rows
end Go.Proofs.Ytmimefcljdllcaa
