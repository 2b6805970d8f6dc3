/-
  No cell of these rows narrows 'for every input' (looked for: loops, veiled, ifaces, maps, wideKeys, modest, calm, conditions, laid).
  DERIVED. THE GIVEN ROWS OF THIS SEAT. 9 by the template 'for every input the law returns true; each argument reads behind the call as it read before'; 0 by the template 'total and deterministic' (their statements: YtpaagplopefklaaTotals.lean).
  GIVEN WITH THE SEED: the statements are not yours to turn. If you find one false, say at which input.
  Laid BY PROGRAM, IN A SANDBOX (cutbox-rows.mjs): the forced cells as the released guide's own fill.sh prints them over the translation b6c5b2d0b6221dd2… (all of the seat's roots in one cut). By AI agents, Wed Nov 11 2026. No macro, syntax, notation, axiom, sorry.
-/
import Derived.Test.YtpaagplopefklaaChecked
import GoSem.Claim
import GoSem.ClaimJoined
import GoSem.ClaimMapViews
import Derived.JoinedTies
import Derived.KernelRfl
namespace Go.Proofs.Ytpaagplopefklaa
/- THE CELL 'sum', in the pinned program and in every row, IS THE sha256 OF THE DUMP (.gsa) THAT YtpaagplopefklaaProg.lean LOADS. Nothing in Lean hashes anything: it is a label: what it is worth is what the hold of that sum in a sandbox is worth. -/
noncomputable def Try.pinned : Pinned := { name := "ytpaagplopefklaa", sum := "b6c5b2d0b6221dd28f4c0803d6b97e555decc57a871841cd31d2b4881287847d", checked := Try.checked }
namespace Rows
def none {H : Type} : Left H := { results := [], args := [] }

/-- 'laws.FnExactSystemValid': WHATEVER THE INPUT: true; the input reads as it did. -/
def fnExactSystemValidSpec : ChangeSpec := { name := "fnExactSystemValid", fn := fun _ => fun
  | [d] => { results := [.lit (.bool true)], args := [d] }
  | _ => none }
def fnExactSystemValidRow : OpenClaim := { program := "ytpaagplopefklaa", sum := "b6c5b2d0b6221dd28f4c0803d6b97e555decc57a871841cd31d2b4881287847d", func := "loop.example/wholecheck/laws.FnExactSystemValid", spec := "fnExactSystemValid", apart := false }
def FnExactSystemValidSaid : Prop := fnExactSystemValidRow.holds Try.pinned (OpenSpec.ofChange fnExactSystemValidSpec)

/-- ITS FALSE NEIGHBOUR: 'it returns false'. Refute it at one input. -/
def fnExactSystemValidWrong : ChangeSpec := { name := "fnExactSystemValid", fn := fun _ => fun
  | [d] => { results := [.lit (.bool false)], args := [d] }
  | _ => none }
def FnExactSystemValidWrongFalsely : Prop := fnExactSystemValidRow.holds Try.pinned (OpenSpec.ofChange fnExactSystemValidWrong)

/-- 'laws.FnExactFirstState': WHATEVER THE INPUT: true; the input reads as it did. -/
def fnExactFirstStateSpec : ChangeSpec := { name := "fnExactFirstState", fn := fun _ => fun
  | [d] => { results := [.lit (.bool true)], args := [d] }
  | _ => none }
def fnExactFirstStateRow : OpenClaim := { program := "ytpaagplopefklaa", sum := "b6c5b2d0b6221dd28f4c0803d6b97e555decc57a871841cd31d2b4881287847d", func := "loop.example/wholecheck/laws.FnExactFirstState", spec := "fnExactFirstState", apart := false }
def FnExactFirstStateSaid : Prop := fnExactFirstStateRow.holds Try.pinned (OpenSpec.ofChange fnExactFirstStateSpec)

/-- ITS FALSE NEIGHBOUR: 'it returns false'. Refute it at one input. -/
def fnExactFirstStateWrong : ChangeSpec := { name := "fnExactFirstState", fn := fun _ => fun
  | [d] => { results := [.lit (.bool false)], args := [d] }
  | _ => none }
def FnExactFirstStateWrongFalsely : Prop := fnExactFirstStateRow.holds Try.pinned (OpenSpec.ofChange fnExactFirstStateWrong)

/-- 'laws.FnExactInRange': WHATEVER THE INPUT: true; the input reads as it did. -/
def fnExactInRangeSpec : ChangeSpec := { name := "fnExactInRange", fn := fun _ => fun
  | [d1, d2] => { results := [.lit (.bool true)], args := [d1, d2] }
  | _ => none }
def fnExactInRangeRow : OpenClaim := { program := "ytpaagplopefklaa", sum := "b6c5b2d0b6221dd28f4c0803d6b97e555decc57a871841cd31d2b4881287847d", func := "loop.example/wholecheck/laws.FnExactInRange", spec := "fnExactInRange", apart := false }
def FnExactInRangeSaid : Prop := fnExactInRangeRow.holds Try.pinned (OpenSpec.ofChange fnExactInRangeSpec)

/-- ITS FALSE NEIGHBOUR: 'it returns false'. Refute it at one input. -/
def fnExactInRangeWrong : ChangeSpec := { name := "fnExactInRange", fn := fun _ => fun
  | [d1, d2] => { results := [.lit (.bool false)], args := [d1, d2] }
  | _ => none }
def FnExactInRangeWrongFalsely : Prop := fnExactInRangeRow.holds Try.pinned (OpenSpec.ofChange fnExactInRangeWrong)

/-- 'laws.FnExactUse': WHATEVER THE INPUT: true; the input reads as it did. -/
def fnExactUseSpec : ChangeSpec := { name := "fnExactUse", fn := fun _ => fun
  | [d1, d2, d3] => { results := [.lit (.bool true)], args := [d1, d2, d3] }
  | _ => none }
def fnExactUseRow : OpenClaim := { program := "ytpaagplopefklaa", sum := "b6c5b2d0b6221dd28f4c0803d6b97e555decc57a871841cd31d2b4881287847d", func := "loop.example/wholecheck/laws.FnExactUse", spec := "fnExactUse", apart := false }
def FnExactUseSaid : Prop := fnExactUseRow.holds Try.pinned (OpenSpec.ofChange fnExactUseSpec)

/-- ITS FALSE NEIGHBOUR: 'it returns false'. Refute it at one input. -/
def fnExactUseWrong : ChangeSpec := { name := "fnExactUse", fn := fun _ => fun
  | [d1, d2, d3] => { results := [.lit (.bool false)], args := [d1, d2, d3] }
  | _ => none }
def FnExactUseWrongFalsely : Prop := fnExactUseRow.holds Try.pinned (OpenSpec.ofChange fnExactUseWrong)

/-- 'laws.FnExactUsableIn': WHATEVER THE INPUT: true; the input reads as it did. -/
def fnExactUsableInSpec : ChangeSpec := { name := "fnExactUsableIn", fn := fun _ => fun
  | [d1, d2] => { results := [.lit (.bool true)], args := [d1, d2] }
  | _ => none }
def fnExactUsableInRow : OpenClaim := { program := "ytpaagplopefklaa", sum := "b6c5b2d0b6221dd28f4c0803d6b97e555decc57a871841cd31d2b4881287847d", func := "loop.example/wholecheck/laws.FnExactUsableIn", spec := "fnExactUsableIn", apart := false }
def FnExactUsableInSaid : Prop := fnExactUsableInRow.holds Try.pinned (OpenSpec.ofChange fnExactUsableInSpec)

/-- ITS FALSE NEIGHBOUR: 'it returns false'. Refute it at one input. -/
def fnExactUsableInWrong : ChangeSpec := { name := "fnExactUsableIn", fn := fun _ => fun
  | [d1, d2] => { results := [.lit (.bool false)], args := [d1, d2] }
  | _ => none }
def FnExactUsableInWrongFalsely : Prop := fnExactUsableInRow.holds Try.pinned (OpenSpec.ofChange fnExactUsableInWrong)

/-- 'laws.FnExactSizeOf': WHATEVER THE INPUT: true; the input reads as it did. -/
def fnExactSizeOfSpec : ChangeSpec := { name := "fnExactSizeOf", fn := fun _ => fun
  | [d] => { results := [.lit (.bool true)], args := [d] }
  | _ => none }
def fnExactSizeOfRow : OpenClaim := { program := "ytpaagplopefklaa", sum := "b6c5b2d0b6221dd28f4c0803d6b97e555decc57a871841cd31d2b4881287847d", func := "loop.example/wholecheck/laws.FnExactSizeOf", spec := "fnExactSizeOf", apart := false }
def FnExactSizeOfSaid : Prop := fnExactSizeOfRow.holds Try.pinned (OpenSpec.ofChange fnExactSizeOfSpec)

/-- ITS FALSE NEIGHBOUR: 'it returns false'. Refute it at one input. -/
def fnExactSizeOfWrong : ChangeSpec := { name := "fnExactSizeOf", fn := fun _ => fun
  | [d] => { results := [.lit (.bool false)], args := [d] }
  | _ => none }
def FnExactSizeOfWrongFalsely : Prop := fnExactSizeOfRow.holds Try.pinned (OpenSpec.ofChange fnExactSizeOfWrong)

/-- 'laws.FnExactTouchedBy': WHATEVER THE INPUT: true; the input reads as it did. -/
def fnExactTouchedBySpec : ChangeSpec := { name := "fnExactTouchedBy", fn := fun _ => fun
  | [d1, d2] => { results := [.lit (.bool true)], args := [d1, d2] }
  | _ => none }
def fnExactTouchedByRow : OpenClaim := { program := "ytpaagplopefklaa", sum := "b6c5b2d0b6221dd28f4c0803d6b97e555decc57a871841cd31d2b4881287847d", func := "loop.example/wholecheck/laws.FnExactTouchedBy", spec := "fnExactTouchedBy", recurses := true, apart := false }
def FnExactTouchedBySaid : Prop := fnExactTouchedByRow.holds Try.pinned (OpenSpec.ofChange fnExactTouchedBySpec)

/-- ITS FALSE NEIGHBOUR: 'it returns false'. Refute it at one input. -/
def fnExactTouchedByWrong : ChangeSpec := { name := "fnExactTouchedBy", fn := fun _ => fun
  | [d1, d2] => { results := [.lit (.bool false)], args := [d1, d2] }
  | _ => none }
def FnExactTouchedByWrongFalsely : Prop := fnExactTouchedByRow.holds Try.pinned (OpenSpec.ofChange fnExactTouchedByWrong)

/-- 'laws.FnExactReplay': WHATEVER THE INPUT: true; the input reads as it did. -/
def fnExactReplaySpec : ChangeSpec := { name := "fnExactReplay", fn := fun _ => fun
  | [d1, d2] => { results := [.lit (.bool true)], args := [d1, d2] }
  | _ => none }
def fnExactReplayRow : OpenClaim := { program := "ytpaagplopefklaa", sum := "b6c5b2d0b6221dd28f4c0803d6b97e555decc57a871841cd31d2b4881287847d", func := "loop.example/wholecheck/laws.FnExactReplay", spec := "fnExactReplay", apart := false }
def FnExactReplaySaid : Prop := fnExactReplayRow.holds Try.pinned (OpenSpec.ofChange fnExactReplaySpec)

/-- ITS FALSE NEIGHBOUR: 'it returns false'. Refute it at one input. -/
def fnExactReplayWrong : ChangeSpec := { name := "fnExactReplay", fn := fun _ => fun
  | [d1, d2] => { results := [.lit (.bool false)], args := [d1, d2] }
  | _ => none }
def FnExactReplayWrongFalsely : Prop := fnExactReplayRow.holds Try.pinned (OpenSpec.ofChange fnExactReplayWrong)

/-- 'laws.FnExactRuleBetween': WHATEVER THE INPUT: true; the input reads as it did. -/
def fnExactRuleBetweenSpec : ChangeSpec := { name := "fnExactRuleBetween", fn := fun _ => fun
  | [d1, d2, d3] => { results := [.lit (.bool true)], args := [d1, d2, d3] }
  | _ => none }
def fnExactRuleBetweenRow : OpenClaim := { program := "ytpaagplopefklaa", sum := "b6c5b2d0b6221dd28f4c0803d6b97e555decc57a871841cd31d2b4881287847d", func := "loop.example/wholecheck/laws.FnExactRuleBetween", spec := "fnExactRuleBetween", apart := false }
def FnExactRuleBetweenSaid : Prop := fnExactRuleBetweenRow.holds Try.pinned (OpenSpec.ofChange fnExactRuleBetweenSpec)

/-- ITS FALSE NEIGHBOUR: 'it returns false'. Refute it at one input. -/
def fnExactRuleBetweenWrong : ChangeSpec := { name := "fnExactRuleBetween", fn := fun _ => fun
  | [d1, d2, d3] => { results := [.lit (.bool false)], args := [d1, d2, d3] }
  | _ => none }
def FnExactRuleBetweenWrongFalsely : Prop := fnExactRuleBetweenRow.holds Try.pinned (OpenSpec.ofChange fnExactRuleBetweenWrong)

/- THE SECOND FORM. 'bulk': how many values and letters a reading holds, each counted each time it is reached (what is shared counts as often as it is met; a slice's spare places count too). A statement '..UptoSaid' is the law's where the arguments, and the package variables that the reading takes, are together of bulk at most 1048576: NARROWER than '..Said'. Prove '..Said' where nothing that the law and all that it calls make is longer than what came in: it says more and counts as full. Else prove '..UptoSaid'. A law counts once. -/
mutual
def uptoBulk {H : Type} : DataW H → Nat
  | .lit (.string bytes) => bytes.length + 1
  | .lit _ => 1
  | .nil => 1
  | .ptr d => uptoBulk d + 1
  | .slice elems spare => uptoBulkAll elems + uptoBulkAll spare + 1
  | .agg parts => uptoBulkAll parts + 1
  | .iface _ d => uptoBulk d + 1
  | .map entries => uptoBulkEntries entries + 1
  | .held _ => 1
def uptoBulkAll {H : Type} : List (DataW H) → Nat
  | [] => 0
  | d :: r => uptoBulk d + uptoBulkAll r
def uptoBulkEntries {H : Type} : List (Lit × DataW H) → Nat
  | [] => 0
  | x :: r => uptoBulkEntry x + uptoBulkEntries r
def uptoBulkEntry {H : Type} : Lit × DataW H → Nat
  | (.string bytes, d) => bytes.length + uptoBulk d + 1
  | (_, d) => uptoBulk d + 1
 end
def uptoSmall : (H : Type) → List (DataW H) → Bool := fun _ ds => decide (uptoBulkAll ds ≤ 1048576)
def OpenSpec.upto (s : _root_.Go.ChangeSpec) : _root_.Go.OpenSpec := { _root_.Go.OpenSpec.ofChange s with cond := some uptoSmall }

/-- 'laws.FnExactSystemValid', WHERE WHAT IT READS IS OF BULK AT MOST 1048576: true; the input reads as it did. -/
def fnExactSystemValidUptoRow : OpenClaim := { program := "ytpaagplopefklaa", sum := "b6c5b2d0b6221dd28f4c0803d6b97e555decc57a871841cd31d2b4881287847d", func := "loop.example/wholecheck/laws.FnExactSystemValid", spec := "fnExactSystemValid", apart := false, narrowed := true }
def FnExactSystemValidUptoSaid : Prop := fnExactSystemValidUptoRow.holds Try.pinned (OpenSpec.upto fnExactSystemValidSpec)

/-- 'laws.FnExactFirstState', WHERE WHAT IT READS IS OF BULK AT MOST 1048576: true; the input reads as it did. -/
def fnExactFirstStateUptoRow : OpenClaim := { program := "ytpaagplopefklaa", sum := "b6c5b2d0b6221dd28f4c0803d6b97e555decc57a871841cd31d2b4881287847d", func := "loop.example/wholecheck/laws.FnExactFirstState", spec := "fnExactFirstState", apart := false, narrowed := true }
def FnExactFirstStateUptoSaid : Prop := fnExactFirstStateUptoRow.holds Try.pinned (OpenSpec.upto fnExactFirstStateSpec)

/-- 'laws.FnExactInRange', WHERE WHAT IT READS IS OF BULK AT MOST 1048576: true; the input reads as it did. -/
def fnExactInRangeUptoRow : OpenClaim := { program := "ytpaagplopefklaa", sum := "b6c5b2d0b6221dd28f4c0803d6b97e555decc57a871841cd31d2b4881287847d", func := "loop.example/wholecheck/laws.FnExactInRange", spec := "fnExactInRange", apart := false, narrowed := true }
def FnExactInRangeUptoSaid : Prop := fnExactInRangeUptoRow.holds Try.pinned (OpenSpec.upto fnExactInRangeSpec)

/-- 'laws.FnExactUse', WHERE WHAT IT READS IS OF BULK AT MOST 1048576: true; the input reads as it did. -/
def fnExactUseUptoRow : OpenClaim := { program := "ytpaagplopefklaa", sum := "b6c5b2d0b6221dd28f4c0803d6b97e555decc57a871841cd31d2b4881287847d", func := "loop.example/wholecheck/laws.FnExactUse", spec := "fnExactUse", apart := false, narrowed := true }
def FnExactUseUptoSaid : Prop := fnExactUseUptoRow.holds Try.pinned (OpenSpec.upto fnExactUseSpec)

/-- 'laws.FnExactUsableIn', WHERE WHAT IT READS IS OF BULK AT MOST 1048576: true; the input reads as it did. -/
def fnExactUsableInUptoRow : OpenClaim := { program := "ytpaagplopefklaa", sum := "b6c5b2d0b6221dd28f4c0803d6b97e555decc57a871841cd31d2b4881287847d", func := "loop.example/wholecheck/laws.FnExactUsableIn", spec := "fnExactUsableIn", apart := false, narrowed := true }
def FnExactUsableInUptoSaid : Prop := fnExactUsableInUptoRow.holds Try.pinned (OpenSpec.upto fnExactUsableInSpec)

/-- 'laws.FnExactSizeOf', WHERE WHAT IT READS IS OF BULK AT MOST 1048576: true; the input reads as it did. -/
def fnExactSizeOfUptoRow : OpenClaim := { program := "ytpaagplopefklaa", sum := "b6c5b2d0b6221dd28f4c0803d6b97e555decc57a871841cd31d2b4881287847d", func := "loop.example/wholecheck/laws.FnExactSizeOf", spec := "fnExactSizeOf", apart := false, narrowed := true }
def FnExactSizeOfUptoSaid : Prop := fnExactSizeOfUptoRow.holds Try.pinned (OpenSpec.upto fnExactSizeOfSpec)

/-- 'laws.FnExactTouchedBy', WHERE WHAT IT READS IS OF BULK AT MOST 1048576: true; the input reads as it did. -/
def fnExactTouchedByUptoRow : OpenClaim := { program := "ytpaagplopefklaa", sum := "b6c5b2d0b6221dd28f4c0803d6b97e555decc57a871841cd31d2b4881287847d", func := "loop.example/wholecheck/laws.FnExactTouchedBy", spec := "fnExactTouchedBy", recurses := true, apart := false, narrowed := true }
def FnExactTouchedByUptoSaid : Prop := fnExactTouchedByUptoRow.holds Try.pinned (OpenSpec.upto fnExactTouchedBySpec)

/-- 'laws.FnExactReplay', WHERE WHAT IT READS IS OF BULK AT MOST 1048576: true; the input reads as it did. -/
def fnExactReplayUptoRow : OpenClaim := { program := "ytpaagplopefklaa", sum := "b6c5b2d0b6221dd28f4c0803d6b97e555decc57a871841cd31d2b4881287847d", func := "loop.example/wholecheck/laws.FnExactReplay", spec := "fnExactReplay", apart := false, narrowed := true }
def FnExactReplayUptoSaid : Prop := fnExactReplayUptoRow.holds Try.pinned (OpenSpec.upto fnExactReplaySpec)

/-- 'laws.FnExactRuleBetween', WHERE WHAT IT READS IS OF BULK AT MOST 1048576: true; the input reads as it did. -/
def fnExactRuleBetweenUptoRow : OpenClaim := { program := "ytpaagplopefklaa", sum := "b6c5b2d0b6221dd28f4c0803d6b97e555decc57a871841cd31d2b4881287847d", func := "loop.example/wholecheck/laws.FnExactRuleBetween", spec := "fnExactRuleBetween", apart := false, narrowed := true }
def FnExactRuleBetweenUptoSaid : Prop := fnExactRuleBetweenUptoRow.holds Try.pinned (OpenSpec.upto fnExactRuleBetweenSpec)

end Rows
end Go.Proofs.Ytpaagplopefklaa
