/-
  No cell of these rows narrows 'for every input' (looked for: loops, veiled, ifaces, maps, wideKeys, modest, calm, conditions, laid).
  DERIVED. THE GIVEN ROWS OF THIS SEAT. 9 by the template 'for every input the law returns true; each argument reads behind the call as it read before'; 0 by the template 'total and deterministic' (their statements: YthplpddddaooiaaTotals.lean).
  GIVEN WITH THE SEED: the statements are not yours to turn. If you find one false, say at which input.
  Laid BY PROGRAM, IN A SANDBOX (cutbox-rows.mjs): the forced cells as the released guide's own fill.sh prints them over the translation a8da048455329944… (all of the seat's roots in one cut). By AI agents, Wed Nov 11 2026. No macro, syntax, notation, axiom, sorry.
-/
import Derived.Test.YthplpddddaooiaaChecked
import GoSem.Claim
import GoSem.ClaimJoined
import GoSem.ClaimMapViews
import Derived.JoinedTies
import Derived.KernelRfl
namespace Go.Proofs.Ythplpddddaooiaa
/- THE CELL 'sum', in the pinned program and in every row, IS THE sha256 OF THE DUMP (.gsa) THAT YthplpddddaooiaaProg.lean LOADS. Nothing in Lean hashes anything: it is a label: what it is worth is what the hold of that sum in a sandbox is worth. -/
noncomputable def Try.pinned : Pinned := { name := "ythplpddddaooiaa", sum := "a8da0484553299442b812718a83214465ff753db9f74333053b18d30f0204869", checked := Try.checked }
namespace Rows
def none {H : Type} : Left H := { results := [], args := [] }

/-- 'laws.FnExactUsedBy': WHATEVER THE INPUT: true; the input reads as it did. -/
def fnExactUsedBySpec : ChangeSpec := { name := "fnExactUsedBy", fn := fun _ => fun
  | [d1, d2] => { results := [.lit (.bool true)], args := [d1, d2] }
  | _ => none }
def fnExactUsedByRow : OpenClaim := { program := "ythplpddddaooiaa", sum := "a8da0484553299442b812718a83214465ff753db9f74333053b18d30f0204869", func := "loop.example/wholecheck/laws.FnExactUsedBy", spec := "fnExactUsedBy", apart := false }
def FnExactUsedBySaid : Prop := fnExactUsedByRow.holds Try.pinned (OpenSpec.ofChange fnExactUsedBySpec)

/-- ITS FALSE NEIGHBOUR: 'it returns false'. Refute it at one input. -/
def fnExactUsedByWrong : ChangeSpec := { name := "fnExactUsedBy", fn := fun _ => fun
  | [d1, d2] => { results := [.lit (.bool false)], args := [d1, d2] }
  | _ => none }
def FnExactUsedByWrongFalsely : Prop := fnExactUsedByRow.holds Try.pinned (OpenSpec.ofChange fnExactUsedByWrong)

/-- 'laws.FnExactUse': WHATEVER THE INPUT: true; the input reads as it did. -/
def fnExactUseSpec : ChangeSpec := { name := "fnExactUse", fn := fun _ => fun
  | [d1, d2, d3] => { results := [.lit (.bool true)], args := [d1, d2, d3] }
  | _ => none }
def fnExactUseRow : OpenClaim := { program := "ythplpddddaooiaa", sum := "a8da0484553299442b812718a83214465ff753db9f74333053b18d30f0204869", func := "loop.example/wholecheck/laws.FnExactUse", spec := "fnExactUse", apart := false }
def FnExactUseSaid : Prop := fnExactUseRow.holds Try.pinned (OpenSpec.ofChange fnExactUseSpec)

/-- ITS FALSE NEIGHBOUR: 'it returns false'. Refute it at one input. -/
def fnExactUseWrong : ChangeSpec := { name := "fnExactUse", fn := fun _ => fun
  | [d1, d2, d3] => { results := [.lit (.bool false)], args := [d1, d2, d3] }
  | _ => none }
def FnExactUseWrongFalsely : Prop := fnExactUseRow.holds Try.pinned (OpenSpec.ofChange fnExactUseWrong)

/-- 'laws.FnExactUsableIn': WHATEVER THE INPUT: true; the input reads as it did. -/
def fnExactUsableInSpec : ChangeSpec := { name := "fnExactUsableIn", fn := fun _ => fun
  | [d1, d2] => { results := [.lit (.bool true)], args := [d1, d2] }
  | _ => none }
def fnExactUsableInRow : OpenClaim := { program := "ythplpddddaooiaa", sum := "a8da0484553299442b812718a83214465ff753db9f74333053b18d30f0204869", func := "loop.example/wholecheck/laws.FnExactUsableIn", spec := "fnExactUsableIn", apart := false }
def FnExactUsableInSaid : Prop := fnExactUsableInRow.holds Try.pinned (OpenSpec.ofChange fnExactUsableInSpec)

/-- ITS FALSE NEIGHBOUR: 'it returns false'. Refute it at one input. -/
def fnExactUsableInWrong : ChangeSpec := { name := "fnExactUsableIn", fn := fun _ => fun
  | [d1, d2] => { results := [.lit (.bool false)], args := [d1, d2] }
  | _ => none }
def FnExactUsableInWrongFalsely : Prop := fnExactUsableInRow.holds Try.pinned (OpenSpec.ofChange fnExactUsableInWrong)

/-- 'laws.FnExactTouchedBy': WHATEVER THE INPUT: true; the input reads as it did. -/
def fnExactTouchedBySpec : ChangeSpec := { name := "fnExactTouchedBy", fn := fun _ => fun
  | [d1, d2] => { results := [.lit (.bool true)], args := [d1, d2] }
  | _ => none }
def fnExactTouchedByRow : OpenClaim := { program := "ythplpddddaooiaa", sum := "a8da0484553299442b812718a83214465ff753db9f74333053b18d30f0204869", func := "loop.example/wholecheck/laws.FnExactTouchedBy", spec := "fnExactTouchedBy", recurses := true, apart := false }
def FnExactTouchedBySaid : Prop := fnExactTouchedByRow.holds Try.pinned (OpenSpec.ofChange fnExactTouchedBySpec)

/-- ITS FALSE NEIGHBOUR: 'it returns false'. Refute it at one input. -/
def fnExactTouchedByWrong : ChangeSpec := { name := "fnExactTouchedBy", fn := fun _ => fun
  | [d1, d2] => { results := [.lit (.bool false)], args := [d1, d2] }
  | _ => none }
def FnExactTouchedByWrongFalsely : Prop := fnExactTouchedByRow.holds Try.pinned (OpenSpec.ofChange fnExactTouchedByWrong)

/-- 'laws.FnExactTraceValid': WHATEVER THE INPUT: true; the input reads as it did. -/
def fnExactTraceValidSpec : ChangeSpec := { name := "fnExactTraceValid", fn := fun _ => fun
  | [d1, d2] => { results := [.lit (.bool true)], args := [d1, d2] }
  | _ => none }
def fnExactTraceValidRow : OpenClaim := { program := "ythplpddddaooiaa", sum := "a8da0484553299442b812718a83214465ff753db9f74333053b18d30f0204869", func := "loop.example/wholecheck/laws.FnExactTraceValid", spec := "fnExactTraceValid", unfollowed := true, recurses := true, apart := false }
def FnExactTraceValidSaid : Prop := fnExactTraceValidRow.holds Try.pinned (OpenSpec.ofChange fnExactTraceValidSpec)

/-- ITS FALSE NEIGHBOUR: 'it returns false'. Refute it at one input. -/
def fnExactTraceValidWrong : ChangeSpec := { name := "fnExactTraceValid", fn := fun _ => fun
  | [d1, d2] => { results := [.lit (.bool false)], args := [d1, d2] }
  | _ => none }
def FnExactTraceValidWrongFalsely : Prop := fnExactTraceValidRow.holds Try.pinned (OpenSpec.ofChange fnExactTraceValidWrong)

/-- 'laws.FnExactReplay': WHATEVER THE INPUT: true; the input reads as it did. -/
def fnExactReplaySpec : ChangeSpec := { name := "fnExactReplay", fn := fun _ => fun
  | [d1, d2] => { results := [.lit (.bool true)], args := [d1, d2] }
  | _ => none }
def fnExactReplayRow : OpenClaim := { program := "ythplpddddaooiaa", sum := "a8da0484553299442b812718a83214465ff753db9f74333053b18d30f0204869", func := "loop.example/wholecheck/laws.FnExactReplay", spec := "fnExactReplay", apart := false }
def FnExactReplaySaid : Prop := fnExactReplayRow.holds Try.pinned (OpenSpec.ofChange fnExactReplaySpec)

/-- ITS FALSE NEIGHBOUR: 'it returns false'. Refute it at one input. -/
def fnExactReplayWrong : ChangeSpec := { name := "fnExactReplay", fn := fun _ => fun
  | [d1, d2] => { results := [.lit (.bool false)], args := [d1, d2] }
  | _ => none }
def FnExactReplayWrongFalsely : Prop := fnExactReplayRow.holds Try.pinned (OpenSpec.ofChange fnExactReplayWrong)

/-- 'laws.FnExactRuleBetween': WHATEVER THE INPUT: true; the input reads as it did. -/
def fnExactRuleBetweenSpec : ChangeSpec := { name := "fnExactRuleBetween", fn := fun _ => fun
  | [d1, d2, d3] => { results := [.lit (.bool true)], args := [d1, d2, d3] }
  | _ => none }
def fnExactRuleBetweenRow : OpenClaim := { program := "ythplpddddaooiaa", sum := "a8da0484553299442b812718a83214465ff753db9f74333053b18d30f0204869", func := "loop.example/wholecheck/laws.FnExactRuleBetween", spec := "fnExactRuleBetween", apart := false }
def FnExactRuleBetweenSaid : Prop := fnExactRuleBetweenRow.holds Try.pinned (OpenSpec.ofChange fnExactRuleBetweenSpec)

/-- ITS FALSE NEIGHBOUR: 'it returns false'. Refute it at one input. -/
def fnExactRuleBetweenWrong : ChangeSpec := { name := "fnExactRuleBetween", fn := fun _ => fun
  | [d1, d2, d3] => { results := [.lit (.bool false)], args := [d1, d2, d3] }
  | _ => none }
def FnExactRuleBetweenWrongFalsely : Prop := fnExactRuleBetweenRow.holds Try.pinned (OpenSpec.ofChange fnExactRuleBetweenWrong)

/-- 'laws.FnExactLassoAt': WHATEVER THE INPUT: true; the input reads as it did. -/
def fnExactLassoAtSpec : ChangeSpec := { name := "fnExactLassoAt", fn := fun _ => fun
  | [d1, d2, d3] => { results := [.lit (.bool true)], args := [d1, d2, d3] }
  | _ => none }
def fnExactLassoAtRow : OpenClaim := { program := "ythplpddddaooiaa", sum := "a8da0484553299442b812718a83214465ff753db9f74333053b18d30f0204869", func := "loop.example/wholecheck/laws.FnExactLassoAt", spec := "fnExactLassoAt", apart := false }
def FnExactLassoAtSaid : Prop := fnExactLassoAtRow.holds Try.pinned (OpenSpec.ofChange fnExactLassoAtSpec)

/-- ITS FALSE NEIGHBOUR: 'it returns false'. Refute it at one input. -/
def fnExactLassoAtWrong : ChangeSpec := { name := "fnExactLassoAt", fn := fun _ => fun
  | [d1, d2, d3] => { results := [.lit (.bool false)], args := [d1, d2, d3] }
  | _ => none }
def FnExactLassoAtWrongFalsely : Prop := fnExactLassoAtRow.holds Try.pinned (OpenSpec.ofChange fnExactLassoAtWrong)

/-- 'laws.FnExactSameRun': WHATEVER THE INPUT: true; the input reads as it did. -/
def fnExactSameRunSpec : ChangeSpec := { name := "fnExactSameRun", fn := fun _ => fun
  | [d1, d2, d3, d4] => { results := [.lit (.bool true)], args := [d1, d2, d3, d4] }
  | _ => none }
def fnExactSameRunRow : OpenClaim := { program := "ythplpddddaooiaa", sum := "a8da0484553299442b812718a83214465ff753db9f74333053b18d30f0204869", func := "loop.example/wholecheck/laws.FnExactSameRun", spec := "fnExactSameRun", unfollowed := true, recurses := true, apart := false }
def FnExactSameRunSaid : Prop := fnExactSameRunRow.holds Try.pinned (OpenSpec.ofChange fnExactSameRunSpec)

/-- ITS FALSE NEIGHBOUR: 'it returns false'. Refute it at one input. -/
def fnExactSameRunWrong : ChangeSpec := { name := "fnExactSameRun", fn := fun _ => fun
  | [d1, d2, d3, d4] => { results := [.lit (.bool false)], args := [d1, d2, d3, d4] }
  | _ => none }
def FnExactSameRunWrongFalsely : Prop := fnExactSameRunRow.holds Try.pinned (OpenSpec.ofChange fnExactSameRunWrong)

/- THE SECOND FORM. 'bulk': how many values and letters a reading holds, each counted each time it is reached (what is shared counts as often as it is met; a slice's spare places count too). A statement '..UptoSaid' is the law's where the arguments, and the package variables that the reading takes, are together of bulk at most 1048576: NARROWER than '..Said'. Prove '..Said' where nothing that the law and all that it calls make is longer than what came in: it says more and counts as full. Else prove '..UptoSaid'. A law counts once. -/
mutual
def uptoBulk {H : Type} : DataW H → Nat
  | .lit (.string bytes) => bytes.length + 1
  | .lit _ => 1
  | .nil => 1
  | .ptr d => uptoBulk d + 1
  | .slice elems spare => uptoBulkAll elems + uptoBulkAll spare + 1
  | .agg parts => uptoBulkAll parts + 1
  | .iface _ d => uptoBulk d + 1
  | .map entries => uptoBulkEntries entries + 1
  | .held _ => 1
def uptoBulkAll {H : Type} : List (DataW H) → Nat
  | [] => 0
  | d :: r => uptoBulk d + uptoBulkAll r
def uptoBulkEntries {H : Type} : List (Lit × DataW H) → Nat
  | [] => 0
  | x :: r => uptoBulkEntry x + uptoBulkEntries r
def uptoBulkEntry {H : Type} : Lit × DataW H → Nat
  | (.string bytes, d) => bytes.length + uptoBulk d + 1
  | (_, d) => uptoBulk d + 1
 end
def uptoSmall : (H : Type) → List (DataW H) → Bool := fun _ ds => decide (uptoBulkAll ds ≤ 1048576)
def OpenSpec.upto (s : _root_.Go.ChangeSpec) : _root_.Go.OpenSpec := { _root_.Go.OpenSpec.ofChange s with cond := some uptoSmall }

/-- 'laws.FnExactUsedBy', WHERE WHAT IT READS IS OF BULK AT MOST 1048576: true; the input reads as it did. -/
def fnExactUsedByUptoRow : OpenClaim := { program := "ythplpddddaooiaa", sum := "a8da0484553299442b812718a83214465ff753db9f74333053b18d30f0204869", func := "loop.example/wholecheck/laws.FnExactUsedBy", spec := "fnExactUsedBy", apart := false, narrowed := true }
def FnExactUsedByUptoSaid : Prop := fnExactUsedByUptoRow.holds Try.pinned (OpenSpec.upto fnExactUsedBySpec)

/-- 'laws.FnExactUse', WHERE WHAT IT READS IS OF BULK AT MOST 1048576: true; the input reads as it did. -/
def fnExactUseUptoRow : OpenClaim := { program := "ythplpddddaooiaa", sum := "a8da0484553299442b812718a83214465ff753db9f74333053b18d30f0204869", func := "loop.example/wholecheck/laws.FnExactUse", spec := "fnExactUse", apart := false, narrowed := true }
def FnExactUseUptoSaid : Prop := fnExactUseUptoRow.holds Try.pinned (OpenSpec.upto fnExactUseSpec)

/-- 'laws.FnExactUsableIn', WHERE WHAT IT READS IS OF BULK AT MOST 1048576: true; the input reads as it did. -/
def fnExactUsableInUptoRow : OpenClaim := { program := "ythplpddddaooiaa", sum := "a8da0484553299442b812718a83214465ff753db9f74333053b18d30f0204869", func := "loop.example/wholecheck/laws.FnExactUsableIn", spec := "fnExactUsableIn", apart := false, narrowed := true }
def FnExactUsableInUptoSaid : Prop := fnExactUsableInUptoRow.holds Try.pinned (OpenSpec.upto fnExactUsableInSpec)

/-- 'laws.FnExactTouchedBy', WHERE WHAT IT READS IS OF BULK AT MOST 1048576: true; the input reads as it did. -/
def fnExactTouchedByUptoRow : OpenClaim := { program := "ythplpddddaooiaa", sum := "a8da0484553299442b812718a83214465ff753db9f74333053b18d30f0204869", func := "loop.example/wholecheck/laws.FnExactTouchedBy", spec := "fnExactTouchedBy", recurses := true, apart := false, narrowed := true }
def FnExactTouchedByUptoSaid : Prop := fnExactTouchedByUptoRow.holds Try.pinned (OpenSpec.upto fnExactTouchedBySpec)

/-- 'laws.FnExactTraceValid', WHERE WHAT IT READS IS OF BULK AT MOST 1048576: true; the input reads as it did. -/
def fnExactTraceValidUptoRow : OpenClaim := { program := "ythplpddddaooiaa", sum := "a8da0484553299442b812718a83214465ff753db9f74333053b18d30f0204869", func := "loop.example/wholecheck/laws.FnExactTraceValid", spec := "fnExactTraceValid", unfollowed := true, recurses := true, apart := false, narrowed := true }
def FnExactTraceValidUptoSaid : Prop := fnExactTraceValidUptoRow.holds Try.pinned (OpenSpec.upto fnExactTraceValidSpec)

/-- 'laws.FnExactReplay', WHERE WHAT IT READS IS OF BULK AT MOST 1048576: true; the input reads as it did. -/
def fnExactReplayUptoRow : OpenClaim := { program := "ythplpddddaooiaa", sum := "a8da0484553299442b812718a83214465ff753db9f74333053b18d30f0204869", func := "loop.example/wholecheck/laws.FnExactReplay", spec := "fnExactReplay", apart := false, narrowed := true }
def FnExactReplayUptoSaid : Prop := fnExactReplayUptoRow.holds Try.pinned (OpenSpec.upto fnExactReplaySpec)

/-- 'laws.FnExactRuleBetween', WHERE WHAT IT READS IS OF BULK AT MOST 1048576: true; the input reads as it did. -/
def fnExactRuleBetweenUptoRow : OpenClaim := { program := "ythplpddddaooiaa", sum := "a8da0484553299442b812718a83214465ff753db9f74333053b18d30f0204869", func := "loop.example/wholecheck/laws.FnExactRuleBetween", spec := "fnExactRuleBetween", apart := false, narrowed := true }
def FnExactRuleBetweenUptoSaid : Prop := fnExactRuleBetweenUptoRow.holds Try.pinned (OpenSpec.upto fnExactRuleBetweenSpec)

/-- 'laws.FnExactLassoAt', WHERE WHAT IT READS IS OF BULK AT MOST 1048576: true; the input reads as it did. -/
def fnExactLassoAtUptoRow : OpenClaim := { program := "ythplpddddaooiaa", sum := "a8da0484553299442b812718a83214465ff753db9f74333053b18d30f0204869", func := "loop.example/wholecheck/laws.FnExactLassoAt", spec := "fnExactLassoAt", apart := false, narrowed := true }
def FnExactLassoAtUptoSaid : Prop := fnExactLassoAtUptoRow.holds Try.pinned (OpenSpec.upto fnExactLassoAtSpec)

/-- 'laws.FnExactSameRun', WHERE WHAT IT READS IS OF BULK AT MOST 1048576: true; the input reads as it did. -/
def fnExactSameRunUptoRow : OpenClaim := { program := "ythplpddddaooiaa", sum := "a8da0484553299442b812718a83214465ff753db9f74333053b18d30f0204869", func := "loop.example/wholecheck/laws.FnExactSameRun", spec := "fnExactSameRun", unfollowed := true, recurses := true, apart := false, narrowed := true }
def FnExactSameRunUptoSaid : Prop := fnExactSameRunUptoRow.holds Try.pinned (OpenSpec.upto fnExactSameRunSpec)

end Rows
end Go.Proofs.Ythplpddddaooiaa
