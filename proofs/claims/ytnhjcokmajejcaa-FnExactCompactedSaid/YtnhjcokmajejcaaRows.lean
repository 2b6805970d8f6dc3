/-
  No cell of these rows narrows 'for every input' (looked for: loops, veiled, ifaces, maps, wideKeys, modest, calm, conditions, laid).
  DERIVED. THE GIVEN ROWS OF THIS SEAT. 3 by the template 'for every input the law returns true; each argument reads behind the call as it read before'; 0 by the template 'total and deterministic' (their statements: YtnhjcokmajejcaaTotals.lean).
  GIVEN WITH THE SEED: the statements are not yours to turn. If you find one false, say at which input.
  Laid BY PROGRAM, IN A SANDBOX (cutbox-rows.mjs): the forced cells as the released guide's own fill.sh prints them over the translation 379fc4e968ff64ef… (all of the seat's roots in one cut). By AI agents, Wed Nov 11 2026. No macro, syntax, notation, axiom, sorry.
-/
import Derived.Test.YtnhjcokmajejcaaChecked
import GoSem.Claim
import GoSem.ClaimJoined
import GoSem.ClaimMapViews
import Derived.JoinedTies
import Derived.KernelRfl
namespace Go.Proofs.Ytnhjcokmajejcaa
/- THE CELL 'sum', in the pinned program and in every row, IS THE sha256 OF THE DUMP (.gsa) THAT YtnhjcokmajejcaaProg.lean LOADS. Nothing in Lean hashes anything: it is a label: what it is worth is what the hold of that sum in a sandbox is worth. -/
noncomputable def Try.pinned : Pinned := { name := "ytnhjcokmajejcaa", sum := "379fc4e968ff64efe14c9bbfc13b6d18314e7d9bc139e03a0363fab66f33c9ca", checked := Try.checked }
namespace Rows
def none {H : Type} : Left H := { results := [], args := [] }

/-- 'laws.FnExactAllBits': WHATEVER THE INPUT: true; the input reads as it did. -/
def fnExactAllBitsSpec : ChangeSpec := { name := "fnExactAllBits", fn := fun _ => fun
  | [d1, d2] => { results := [.lit (.bool true)], args := [d1, d2] }
  | _ => none }
def fnExactAllBitsRow : OpenClaim := { program := "ytnhjcokmajejcaa", sum := "379fc4e968ff64efe14c9bbfc13b6d18314e7d9bc139e03a0363fab66f33c9ca", func := "loop.example/wholecheck/laws.FnExactAllBits", spec := "fnExactAllBits", plainKeys := false, apart := false }
def FnExactAllBitsSaid : Prop := fnExactAllBitsRow.holds Try.pinned (OpenSpec.ofChange fnExactAllBitsSpec)

/-- ITS FALSE NEIGHBOUR: 'it returns false'. Refute it at one input. -/
def fnExactAllBitsWrong : ChangeSpec := { name := "fnExactAllBits", fn := fun _ => fun
  | [d1, d2] => { results := [.lit (.bool false)], args := [d1, d2] }
  | _ => none }
def FnExactAllBitsWrongFalsely : Prop := fnExactAllBitsRow.holds Try.pinned (OpenSpec.ofChange fnExactAllBitsWrong)

/-- 'laws.FnExactFixed': WHATEVER THE INPUT: true; the input reads as it did. -/
def fnExactFixedSpec : ChangeSpec := { name := "fnExactFixed", fn := fun _ => fun
  | [d1, d2, d3, d4] => { results := [.lit (.bool true)], args := [d1, d2, d3, d4] }
  | _ => none }
def fnExactFixedRow : OpenClaim := { program := "ytnhjcokmajejcaa", sum := "379fc4e968ff64efe14c9bbfc13b6d18314e7d9bc139e03a0363fab66f33c9ca", func := "loop.example/wholecheck/laws.FnExactFixed", spec := "fnExactFixed", plainKeys := false, apart := false }
def FnExactFixedSaid : Prop := fnExactFixedRow.holds Try.pinned (OpenSpec.ofChange fnExactFixedSpec)

/-- ITS FALSE NEIGHBOUR: 'it returns false'. Refute it at one input. -/
def fnExactFixedWrong : ChangeSpec := { name := "fnExactFixed", fn := fun _ => fun
  | [d1, d2, d3, d4] => { results := [.lit (.bool false)], args := [d1, d2, d3, d4] }
  | _ => none }
def FnExactFixedWrongFalsely : Prop := fnExactFixedRow.holds Try.pinned (OpenSpec.ofChange fnExactFixedWrong)

/-- 'laws.FnExactCompacted': WHATEVER THE INPUT: true; the input reads as it did. -/
def fnExactCompactedSpec : ChangeSpec := { name := "fnExactCompacted", fn := fun _ => fun
  | [d1, d2] => { results := [.lit (.bool true)], args := [d1, d2] }
  | _ => none }
def fnExactCompactedRow : OpenClaim := { program := "ytnhjcokmajejcaa", sum := "379fc4e968ff64efe14c9bbfc13b6d18314e7d9bc139e03a0363fab66f33c9ca", func := "loop.example/wholecheck/laws.FnExactCompacted", spec := "fnExactCompacted", recurses := true, plainKeys := false, apart := false }
def FnExactCompactedSaid : Prop := fnExactCompactedRow.holds Try.pinned (OpenSpec.ofChange fnExactCompactedSpec)

/-- ITS FALSE NEIGHBOUR: 'it returns false'. Refute it at one input. -/
def fnExactCompactedWrong : ChangeSpec := { name := "fnExactCompacted", fn := fun _ => fun
  | [d1, d2] => { results := [.lit (.bool false)], args := [d1, d2] }
  | _ => none }
def FnExactCompactedWrongFalsely : Prop := fnExactCompactedRow.holds Try.pinned (OpenSpec.ofChange fnExactCompactedWrong)

/- THE SECOND FORM. 'bulk': how many values and letters a reading holds, each counted each time it is reached (what is shared counts as often as it is met; a slice's spare places count too). A statement '..UptoSaid' is the law's where the arguments, and the package variables that the reading takes, are together of bulk at most 1048576: NARROWER than '..Said'. Prove '..Said' where nothing that the law and all that it calls make is longer than what came in: it says more and counts as full. Else prove '..UptoSaid'. A law counts once. -/
mutual
def uptoBulk {H : Type} : DataW H → Nat
  | .lit (.string bytes) => bytes.length + 1
  | .lit _ => 1
  | .nil => 1
  | .ptr d => uptoBulk d + 1
  | .slice elems spare => uptoBulkAll elems + uptoBulkAll spare + 1
  | .agg parts => uptoBulkAll parts + 1
  | .iface _ d => uptoBulk d + 1
  | .map entries => uptoBulkEntries entries + 1
  | .held _ => 1
def uptoBulkAll {H : Type} : List (DataW H) → Nat
  | [] => 0
  | d :: r => uptoBulk d + uptoBulkAll r
def uptoBulkEntries {H : Type} : List (Lit × DataW H) → Nat
  | [] => 0
  | x :: r => uptoBulkEntry x + uptoBulkEntries r
def uptoBulkEntry {H : Type} : Lit × DataW H → Nat
  | (.string bytes, d) => bytes.length + uptoBulk d + 1
  | (_, d) => uptoBulk d + 1
 end
def uptoSmall : (H : Type) → List (DataW H) → Bool := fun _ ds => decide (uptoBulkAll ds ≤ 1048576)
def OpenSpec.upto (s : _root_.Go.ChangeSpec) : _root_.Go.OpenSpec := { _root_.Go.OpenSpec.ofChange s with cond := some uptoSmall }

/-- 'laws.FnExactAllBits', WHERE WHAT IT READS IS OF BULK AT MOST 1048576: true; the input reads as it did. -/
def fnExactAllBitsUptoRow : OpenClaim := { program := "ytnhjcokmajejcaa", sum := "379fc4e968ff64efe14c9bbfc13b6d18314e7d9bc139e03a0363fab66f33c9ca", func := "loop.example/wholecheck/laws.FnExactAllBits", spec := "fnExactAllBits", plainKeys := false, apart := false, narrowed := true }
def FnExactAllBitsUptoSaid : Prop := fnExactAllBitsUptoRow.holds Try.pinned (OpenSpec.upto fnExactAllBitsSpec)

/-- 'laws.FnExactFixed', WHERE WHAT IT READS IS OF BULK AT MOST 1048576: true; the input reads as it did. -/
def fnExactFixedUptoRow : OpenClaim := { program := "ytnhjcokmajejcaa", sum := "379fc4e968ff64efe14c9bbfc13b6d18314e7d9bc139e03a0363fab66f33c9ca", func := "loop.example/wholecheck/laws.FnExactFixed", spec := "fnExactFixed", plainKeys := false, apart := false, narrowed := true }
def FnExactFixedUptoSaid : Prop := fnExactFixedUptoRow.holds Try.pinned (OpenSpec.upto fnExactFixedSpec)

/-- 'laws.FnExactCompacted', WHERE WHAT IT READS IS OF BULK AT MOST 1048576: true; the input reads as it did. -/
def fnExactCompactedUptoRow : OpenClaim := { program := "ytnhjcokmajejcaa", sum := "379fc4e968ff64efe14c9bbfc13b6d18314e7d9bc139e03a0363fab66f33c9ca", func := "loop.example/wholecheck/laws.FnExactCompacted", spec := "fnExactCompacted", recurses := true, plainKeys := false, apart := false, narrowed := true }
def FnExactCompactedUptoSaid : Prop := fnExactCompactedUptoRow.holds Try.pinned (OpenSpec.upto fnExactCompactedSpec)

end Rows
end Go.Proofs.Ytnhjcokmajejcaa
