/-
  No cell of these rows narrows 'for every input' (looked for: loops, veiled, ifaces, maps, wideKeys, modest, calm, conditions, laid).
  DERIVED. THE GIVEN ROWS OF THIS SEAT. 9 by the template 'for every input the law returns true; each argument reads behind the call as it read before'; 0 by the template 'total and deterministic' (their statements: YtdecjkfokilgoaaTotals.lean).
  GIVEN WITH THE SEED: the statements are not yours to turn. If you find one false, say at which input.
  Laid BY PROGRAM, IN A SANDBOX (cutbox-rows.mjs): the forced cells as the released guide's own fill.sh prints them over the translation 7e96846b3e40436d… (all of the seat's roots in one cut). By AI agents, Wed Nov 11 2026. No macro, syntax, notation, axiom, sorry.
-/
import Derived.Test.YtdecjkfokilgoaaChecked
import GoSem.Claim
import GoSem.ClaimJoined
import GoSem.ClaimMapViews
import Derived.JoinedTies
import Derived.KernelRfl
namespace Go.Proofs.Ytdecjkfokilgoaa
/- THE CELL 'sum', in the pinned program and in every row, IS THE sha256 OF THE DUMP (.gsa) THAT YtdecjkfokilgoaaProg.lean LOADS. Nothing in Lean hashes anything: it is a label: what it is worth is what the hold of that sum in a sandbox is worth. -/
noncomputable def Try.pinned : Pinned := { name := "ytdecjkfokilgoaa", sum := "7e96846b3e40436d10c874410cc44c323e4b53fea4d946e7d5c77e03d52ad0f1", checked := Try.checked }
namespace Rows
def none {H : Type} : Left H := { results := [], args := [] }

/-- 'laws.FnValueBits': WHATEVER THE INPUT: true; the input reads as it did. -/
def fnValueBitsSpec : ChangeSpec := { name := "fnValueBits", fn := fun _ => fun
  | [d] => { results := [.lit (.bool true)], args := [d] }
  | _ => none }
def fnValueBitsRow : OpenClaim := { program := "ytdecjkfokilgoaa", sum := "7e96846b3e40436d10c874410cc44c323e4b53fea4d946e7d5c77e03d52ad0f1", func := "loop.example/wholecheck/laws.FnValueBits", spec := "fnValueBits", apart := false }
def FnValueBitsSaid : Prop := fnValueBitsRow.holds Try.pinned (OpenSpec.ofChange fnValueBitsSpec)

/-- ITS FALSE NEIGHBOUR: 'it returns false'. Refute it at one input. -/
def fnValueBitsWrong : ChangeSpec := { name := "fnValueBits", fn := fun _ => fun
  | [d] => { results := [.lit (.bool false)], args := [d] }
  | _ => none }
def FnValueBitsWrongFalsely : Prop := fnValueBitsRow.holds Try.pinned (OpenSpec.ofChange fnValueBitsWrong)

/-- 'laws.FnExactTraceOf': WHATEVER THE INPUT: true; the input reads as it did. -/
def fnExactTraceOfSpec : ChangeSpec := { name := "fnExactTraceOf", fn := fun _ => fun
  | [d1, d2] => { results := [.lit (.bool true)], args := [d1, d2] }
  | _ => none }
def fnExactTraceOfRow : OpenClaim := { program := "ytdecjkfokilgoaa", sum := "7e96846b3e40436d10c874410cc44c323e4b53fea4d946e7d5c77e03d52ad0f1", func := "loop.example/wholecheck/laws.FnExactTraceOf", spec := "fnExactTraceOf", apart := false }
def FnExactTraceOfSaid : Prop := fnExactTraceOfRow.holds Try.pinned (OpenSpec.ofChange fnExactTraceOfSpec)

/-- ITS FALSE NEIGHBOUR: 'it returns false'. Refute it at one input. -/
def fnExactTraceOfWrong : ChangeSpec := { name := "fnExactTraceOf", fn := fun _ => fun
  | [d1, d2] => { results := [.lit (.bool false)], args := [d1, d2] }
  | _ => none }
def FnExactTraceOfWrongFalsely : Prop := fnExactTraceOfRow.holds Try.pinned (OpenSpec.ofChange fnExactTraceOfWrong)

/-- 'laws.FnExactBitsOf': WHATEVER THE INPUT: true; the input reads as it did. -/
def fnExactBitsOfSpec : ChangeSpec := { name := "fnExactBitsOf", fn := fun _ => fun
  | [d] => { results := [.lit (.bool true)], args := [d] }
  | _ => none }
def fnExactBitsOfRow : OpenClaim := { program := "ytdecjkfokilgoaa", sum := "7e96846b3e40436d10c874410cc44c323e4b53fea4d946e7d5c77e03d52ad0f1", func := "loop.example/wholecheck/laws.FnExactBitsOf", spec := "fnExactBitsOf", apart := false }
def FnExactBitsOfSaid : Prop := fnExactBitsOfRow.holds Try.pinned (OpenSpec.ofChange fnExactBitsOfSpec)

/-- ITS FALSE NEIGHBOUR: 'it returns false'. Refute it at one input. -/
def fnExactBitsOfWrong : ChangeSpec := { name := "fnExactBitsOf", fn := fun _ => fun
  | [d] => { results := [.lit (.bool false)], args := [d] }
  | _ => none }
def FnExactBitsOfWrongFalsely : Prop := fnExactBitsOfRow.holds Try.pinned (OpenSpec.ofChange fnExactBitsOfWrong)

/-- 'laws.FnExactStateBits': WHATEVER THE INPUT: true; the input reads as it did. -/
def fnExactStateBitsSpec : ChangeSpec := { name := "fnExactStateBits", fn := fun _ => fun
  | [d1, d2] => { results := [.lit (.bool true)], args := [d1, d2] }
  | _ => none }
def fnExactStateBitsRow : OpenClaim := { program := "ytdecjkfokilgoaa", sum := "7e96846b3e40436d10c874410cc44c323e4b53fea4d946e7d5c77e03d52ad0f1", func := "loop.example/wholecheck/laws.FnExactStateBits", spec := "fnExactStateBits", apart := false }
def FnExactStateBitsSaid : Prop := fnExactStateBitsRow.holds Try.pinned (OpenSpec.ofChange fnExactStateBitsSpec)

/-- ITS FALSE NEIGHBOUR: 'it returns false'. Refute it at one input. -/
def fnExactStateBitsWrong : ChangeSpec := { name := "fnExactStateBits", fn := fun _ => fun
  | [d1, d2] => { results := [.lit (.bool false)], args := [d1, d2] }
  | _ => none }
def FnExactStateBitsWrongFalsely : Prop := fnExactStateBitsRow.holds Try.pinned (OpenSpec.ofChange fnExactStateBitsWrong)

/-- 'laws.FnExactBitsState': WHATEVER THE INPUT: true; the input reads as it did. -/
def fnExactBitsStateSpec : ChangeSpec := { name := "fnExactBitsState", fn := fun _ => fun
  | [d1, d2] => { results := [.lit (.bool true)], args := [d1, d2] }
  | _ => none }
def fnExactBitsStateRow : OpenClaim := { program := "ytdecjkfokilgoaa", sum := "7e96846b3e40436d10c874410cc44c323e4b53fea4d946e7d5c77e03d52ad0f1", func := "loop.example/wholecheck/laws.FnExactBitsState", spec := "fnExactBitsState", apart := false }
def FnExactBitsStateSaid : Prop := fnExactBitsStateRow.holds Try.pinned (OpenSpec.ofChange fnExactBitsStateSpec)

/-- ITS FALSE NEIGHBOUR: 'it returns false'. Refute it at one input. -/
def fnExactBitsStateWrong : ChangeSpec := { name := "fnExactBitsState", fn := fun _ => fun
  | [d1, d2] => { results := [.lit (.bool false)], args := [d1, d2] }
  | _ => none }
def FnExactBitsStateWrongFalsely : Prop := fnExactBitsStateRow.holds Try.pinned (OpenSpec.ofChange fnExactBitsStateWrong)

/-- 'laws.FnExactValueBits': WHATEVER THE INPUT: true; the input reads as it did. -/
def fnExactValueBitsSpec : ChangeSpec := { name := "fnExactValueBits", fn := fun _ => fun
  | [d1, d2] => { results := [.lit (.bool true)], args := [d1, d2] }
  | _ => none }
def fnExactValueBitsRow : OpenClaim := { program := "ytdecjkfokilgoaa", sum := "7e96846b3e40436d10c874410cc44c323e4b53fea4d946e7d5c77e03d52ad0f1", func := "loop.example/wholecheck/laws.FnExactValueBits", spec := "fnExactValueBits", apart := false }
def FnExactValueBitsSaid : Prop := fnExactValueBitsRow.holds Try.pinned (OpenSpec.ofChange fnExactValueBitsSpec)

/-- ITS FALSE NEIGHBOUR: 'it returns false'. Refute it at one input. -/
def fnExactValueBitsWrong : ChangeSpec := { name := "fnExactValueBits", fn := fun _ => fun
  | [d1, d2] => { results := [.lit (.bool false)], args := [d1, d2] }
  | _ => none }
def FnExactValueBitsWrongFalsely : Prop := fnExactValueBitsRow.holds Try.pinned (OpenSpec.ofChange fnExactValueBitsWrong)

/-- 'laws.FnExactBitsValue': WHATEVER THE INPUT: true; the input reads as it did. -/
def fnExactBitsValueSpec : ChangeSpec := { name := "fnExactBitsValue", fn := fun _ => fun
  | [d] => { results := [.lit (.bool true)], args := [d] }
  | _ => none }
def fnExactBitsValueRow : OpenClaim := { program := "ytdecjkfokilgoaa", sum := "7e96846b3e40436d10c874410cc44c323e4b53fea4d946e7d5c77e03d52ad0f1", func := "loop.example/wholecheck/laws.FnExactBitsValue", spec := "fnExactBitsValue", apart := false }
def FnExactBitsValueSaid : Prop := fnExactBitsValueRow.holds Try.pinned (OpenSpec.ofChange fnExactBitsValueSpec)

/-- ITS FALSE NEIGHBOUR: 'it returns false'. Refute it at one input. -/
def fnExactBitsValueWrong : ChangeSpec := { name := "fnExactBitsValue", fn := fun _ => fun
  | [d] => { results := [.lit (.bool false)], args := [d] }
  | _ => none }
def FnExactBitsValueWrongFalsely : Prop := fnExactBitsValueRow.holds Try.pinned (OpenSpec.ofChange fnExactBitsValueWrong)

/-- 'laws.FnExactAllBits': WHATEVER THE INPUT: true; the input reads as it did. -/
def fnExactAllBitsSpec : ChangeSpec := { name := "fnExactAllBits", fn := fun _ => fun
  | [d1, d2] => { results := [.lit (.bool true)], args := [d1, d2] }
  | _ => none }
def fnExactAllBitsRow : OpenClaim := { program := "ytdecjkfokilgoaa", sum := "7e96846b3e40436d10c874410cc44c323e4b53fea4d946e7d5c77e03d52ad0f1", func := "loop.example/wholecheck/laws.FnExactAllBits", spec := "fnExactAllBits", apart := false }
def FnExactAllBitsSaid : Prop := fnExactAllBitsRow.holds Try.pinned (OpenSpec.ofChange fnExactAllBitsSpec)

/-- ITS FALSE NEIGHBOUR: 'it returns false'. Refute it at one input. -/
def fnExactAllBitsWrong : ChangeSpec := { name := "fnExactAllBits", fn := fun _ => fun
  | [d1, d2] => { results := [.lit (.bool false)], args := [d1, d2] }
  | _ => none }
def FnExactAllBitsWrongFalsely : Prop := fnExactAllBitsRow.holds Try.pinned (OpenSpec.ofChange fnExactAllBitsWrong)

/-- 'laws.FnExactApartBits': WHATEVER THE INPUT: true; the input reads as it did. -/
def fnExactApartBitsSpec : ChangeSpec := { name := "fnExactApartBits", fn := fun _ => fun
  | [d1, d2, d3] => { results := [.lit (.bool true)], args := [d1, d2, d3] }
  | _ => none }
def fnExactApartBitsRow : OpenClaim := { program := "ytdecjkfokilgoaa", sum := "7e96846b3e40436d10c874410cc44c323e4b53fea4d946e7d5c77e03d52ad0f1", func := "loop.example/wholecheck/laws.FnExactApartBits", spec := "fnExactApartBits", apart := false }
def FnExactApartBitsSaid : Prop := fnExactApartBitsRow.holds Try.pinned (OpenSpec.ofChange fnExactApartBitsSpec)

/-- ITS FALSE NEIGHBOUR: 'it returns false'. Refute it at one input. -/
def fnExactApartBitsWrong : ChangeSpec := { name := "fnExactApartBits", fn := fun _ => fun
  | [d1, d2, d3] => { results := [.lit (.bool false)], args := [d1, d2, d3] }
  | _ => none }
def FnExactApartBitsWrongFalsely : Prop := fnExactApartBitsRow.holds Try.pinned (OpenSpec.ofChange fnExactApartBitsWrong)

/- THE SECOND FORM. 'bulk': how many values and letters a reading holds, each counted each time it is reached (what is shared counts as often as it is met; a slice's spare places count too). A statement '..UptoSaid' is the law's where the arguments, and the package variables that the reading takes, are together of bulk at most 1048576: NARROWER than '..Said'. Prove '..Said' where nothing that the law and all that it calls make is longer than what came in: it says more and counts as full. Else prove '..UptoSaid'. A law counts once. -/
mutual
def uptoBulk {H : Type} : DataW H → Nat
  | .lit (.string bytes) => bytes.length + 1
  | .lit _ => 1
  | .nil => 1
  | .ptr d => uptoBulk d + 1
  | .slice elems spare => uptoBulkAll elems + uptoBulkAll spare + 1
  | .agg parts => uptoBulkAll parts + 1
  | .iface _ d => uptoBulk d + 1
  | .map entries => uptoBulkEntries entries + 1
  | .held _ => 1
def uptoBulkAll {H : Type} : List (DataW H) → Nat
  | [] => 0
  | d :: r => uptoBulk d + uptoBulkAll r
def uptoBulkEntries {H : Type} : List (Lit × DataW H) → Nat
  | [] => 0
  | x :: r => uptoBulkEntry x + uptoBulkEntries r
def uptoBulkEntry {H : Type} : Lit × DataW H → Nat
  | (.string bytes, d) => bytes.length + uptoBulk d + 1
  | (_, d) => uptoBulk d + 1
 end
def uptoSmall : (H : Type) → List (DataW H) → Bool := fun _ ds => decide (uptoBulkAll ds ≤ 1048576)
def OpenSpec.upto (s : _root_.Go.ChangeSpec) : _root_.Go.OpenSpec := { _root_.Go.OpenSpec.ofChange s with cond := some uptoSmall }

/-- 'laws.FnValueBits', WHERE WHAT IT READS IS OF BULK AT MOST 1048576: true; the input reads as it did. -/
def fnValueBitsUptoRow : OpenClaim := { program := "ytdecjkfokilgoaa", sum := "7e96846b3e40436d10c874410cc44c323e4b53fea4d946e7d5c77e03d52ad0f1", func := "loop.example/wholecheck/laws.FnValueBits", spec := "fnValueBits", apart := false, narrowed := true }
def FnValueBitsUptoSaid : Prop := fnValueBitsUptoRow.holds Try.pinned (OpenSpec.upto fnValueBitsSpec)

/-- 'laws.FnExactTraceOf', WHERE WHAT IT READS IS OF BULK AT MOST 1048576: true; the input reads as it did. -/
def fnExactTraceOfUptoRow : OpenClaim := { program := "ytdecjkfokilgoaa", sum := "7e96846b3e40436d10c874410cc44c323e4b53fea4d946e7d5c77e03d52ad0f1", func := "loop.example/wholecheck/laws.FnExactTraceOf", spec := "fnExactTraceOf", apart := false, narrowed := true }
def FnExactTraceOfUptoSaid : Prop := fnExactTraceOfUptoRow.holds Try.pinned (OpenSpec.upto fnExactTraceOfSpec)

/-- 'laws.FnExactBitsOf', WHERE WHAT IT READS IS OF BULK AT MOST 1048576: true; the input reads as it did. -/
def fnExactBitsOfUptoRow : OpenClaim := { program := "ytdecjkfokilgoaa", sum := "7e96846b3e40436d10c874410cc44c323e4b53fea4d946e7d5c77e03d52ad0f1", func := "loop.example/wholecheck/laws.FnExactBitsOf", spec := "fnExactBitsOf", apart := false, narrowed := true }
def FnExactBitsOfUptoSaid : Prop := fnExactBitsOfUptoRow.holds Try.pinned (OpenSpec.upto fnExactBitsOfSpec)

/-- 'laws.FnExactStateBits', WHERE WHAT IT READS IS OF BULK AT MOST 1048576: true; the input reads as it did. -/
def fnExactStateBitsUptoRow : OpenClaim := { program := "ytdecjkfokilgoaa", sum := "7e96846b3e40436d10c874410cc44c323e4b53fea4d946e7d5c77e03d52ad0f1", func := "loop.example/wholecheck/laws.FnExactStateBits", spec := "fnExactStateBits", apart := false, narrowed := true }
def FnExactStateBitsUptoSaid : Prop := fnExactStateBitsUptoRow.holds Try.pinned (OpenSpec.upto fnExactStateBitsSpec)

/-- 'laws.FnExactBitsState', WHERE WHAT IT READS IS OF BULK AT MOST 1048576: true; the input reads as it did. -/
def fnExactBitsStateUptoRow : OpenClaim := { program := "ytdecjkfokilgoaa", sum := "7e96846b3e40436d10c874410cc44c323e4b53fea4d946e7d5c77e03d52ad0f1", func := "loop.example/wholecheck/laws.FnExactBitsState", spec := "fnExactBitsState", apart := false, narrowed := true }
def FnExactBitsStateUptoSaid : Prop := fnExactBitsStateUptoRow.holds Try.pinned (OpenSpec.upto fnExactBitsStateSpec)

/-- 'laws.FnExactValueBits', WHERE WHAT IT READS IS OF BULK AT MOST 1048576: true; the input reads as it did. -/
def fnExactValueBitsUptoRow : OpenClaim := { program := "ytdecjkfokilgoaa", sum := "7e96846b3e40436d10c874410cc44c323e4b53fea4d946e7d5c77e03d52ad0f1", func := "loop.example/wholecheck/laws.FnExactValueBits", spec := "fnExactValueBits", apart := false, narrowed := true }
def FnExactValueBitsUptoSaid : Prop := fnExactValueBitsUptoRow.holds Try.pinned (OpenSpec.upto fnExactValueBitsSpec)

/-- 'laws.FnExactBitsValue', WHERE WHAT IT READS IS OF BULK AT MOST 1048576: true; the input reads as it did. -/
def fnExactBitsValueUptoRow : OpenClaim := { program := "ytdecjkfokilgoaa", sum := "7e96846b3e40436d10c874410cc44c323e4b53fea4d946e7d5c77e03d52ad0f1", func := "loop.example/wholecheck/laws.FnExactBitsValue", spec := "fnExactBitsValue", apart := false, narrowed := true }
def FnExactBitsValueUptoSaid : Prop := fnExactBitsValueUptoRow.holds Try.pinned (OpenSpec.upto fnExactBitsValueSpec)

/-- 'laws.FnExactAllBits', WHERE WHAT IT READS IS OF BULK AT MOST 1048576: true; the input reads as it did. -/
def fnExactAllBitsUptoRow : OpenClaim := { program := "ytdecjkfokilgoaa", sum := "7e96846b3e40436d10c874410cc44c323e4b53fea4d946e7d5c77e03d52ad0f1", func := "loop.example/wholecheck/laws.FnExactAllBits", spec := "fnExactAllBits", apart := false, narrowed := true }
def FnExactAllBitsUptoSaid : Prop := fnExactAllBitsUptoRow.holds Try.pinned (OpenSpec.upto fnExactAllBitsSpec)

/-- 'laws.FnExactApartBits', WHERE WHAT IT READS IS OF BULK AT MOST 1048576: true; the input reads as it did. -/
def fnExactApartBitsUptoRow : OpenClaim := { program := "ytdecjkfokilgoaa", sum := "7e96846b3e40436d10c874410cc44c323e4b53fea4d946e7d5c77e03d52ad0f1", func := "loop.example/wholecheck/laws.FnExactApartBits", spec := "fnExactApartBits", apart := false, narrowed := true }
def FnExactApartBitsUptoSaid : Prop := fnExactApartBitsUptoRow.holds Try.pinned (OpenSpec.upto fnExactApartBitsSpec)

end Rows
end Go.Proofs.Ytdecjkfokilgoaa
