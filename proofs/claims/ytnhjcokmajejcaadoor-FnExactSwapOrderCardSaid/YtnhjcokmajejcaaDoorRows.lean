/-
  NARROWER THAN 'FOR EVERY INPUT', by the rows' own cells (each row's printed sentence says how): FnExactSameEdges: laid · FnExactDiagramOf: laid · FnExactReordered: laid · FnExactSwapOrder: laid.
  DERIVED. THE GIVEN ROWS OF THIS SEAT. 4 by the template 'for every input the law returns true; each argument reads behind the call as it read before'; 0 by the template 'total and deterministic' (their statements: YtnhjcokmajejcaaDoorTotals.lean).
  GIVEN WITH THE SEED: the statements are not yours to turn. If you find one false, say at which input.
  Laid BY PROGRAM, IN A SANDBOX (cutbox-rows.mjs): the forced cells as the released guide's own fill.sh prints them over the translation 219bfc9ebd01826c… (all of the seat's roots in one cut). By AI agents, Wed Nov 11 2026. No macro, syntax, notation, axiom, sorry.
-/
import Derived.Test.YtnhjcokmajejcaaDoorChecked
import GoSem.Claim
import GoSem.ClaimJoined
import GoSem.ClaimMapViews
import Derived.JoinedTies
import Derived.KernelRfl
namespace Go.Proofs.YtnhjcokmajejcaaDoor
/- THE CELL 'sum', in the pinned program and in every row, IS THE sha256 OF THE DUMP (.gsa) THAT YtnhjcokmajejcaaDoorProg.lean LOADS. Nothing in Lean hashes anything: it is a label: what it is worth is what the hold of that sum in a sandbox is worth. -/
noncomputable def Tryd.pinned : Pinned := { name := "ytnhjcokmajejcaadoor", sum := "219bfc9ebd01826ca752a3e45ea9ea7c53308f4ca91607e1eea8e4d1a83c9aef", checked := Tryd.checked }
namespace Rows
def none {H : Type} : Left H := { results := [], args := [] }

/- WHAT THE LISTED PACKAGE-LEVEL VARIABLES READ AS WHEN THE CALL BEGINS. Each datum BY PROGRAM (the guide's laid-datum.mjs) off the statement by which the dump's own 'gosem.cut.vars' lays the variable. In a bare row this is a premise. The card (YtnhjcokmajejcaaDoorCards.lean) ties it to the program's text. -/
def laid_loop_example_wholecheck_impl_firstColumns {H : Type} : DataW H := .agg [.lit (.int .u64 12297829382473034410), .lit (.int .u64 14757395258967641292), .lit (.int .u64 17361641481138401520), .lit (.int .u64 18374966859414961920), .lit (.int .u64 18446462603027742720), .lit (.int .u64 18446744069414584320)]

/-- 'laws.FnExactSameEdges': WHATEVER THE INPUT: true; the input reads as it did. -/
def fnExactSameEdgesSpec : ChangeSpec := { name := "fnExactSameEdges", vars := ["loop.example/wholecheck/impl.firstColumns"], fn := fun _ => fun
  | [d1, d2, d3, g1] => { results := [.lit (.bool true)], args := [d1, d2, d3], vars := [g1] }
  | _ => none }
def fnExactSameEdgesRow : OpenClaim := { program := "ytnhjcokmajejcaadoor", sum := "219bfc9ebd01826ca752a3e45ea9ea7c53308f4ca91607e1eea8e4d1a83c9aef", func := "loop.example/wholecheck/laws.FnExactSameEdges", spec := "fnExactSameEdges", unfollowed := true, recurses := true, named := ["loop.example/wholecheck/impl.firstColumns"], plainKeys := false, apart := false, laid := [("loop.example/wholecheck/impl.firstColumns", laid_loop_example_wholecheck_impl_firstColumns)] }
def FnExactSameEdgesSaid : Prop := fnExactSameEdgesRow.holds Tryd.pinned (OpenSpec.ofChange fnExactSameEdgesSpec)

/-- ITS FALSE NEIGHBOUR: 'it returns false'. Refute it at one input. -/
def fnExactSameEdgesWrong : ChangeSpec := { name := "fnExactSameEdges", vars := ["loop.example/wholecheck/impl.firstColumns"], fn := fun _ => fun
  | [d1, d2, d3, g1] => { results := [.lit (.bool false)], args := [d1, d2, d3], vars := [g1] }
  | _ => none }
def FnExactSameEdgesWrongFalsely : Prop := fnExactSameEdgesRow.holds Tryd.pinned (OpenSpec.ofChange fnExactSameEdgesWrong)

/-- 'laws.FnExactDiagramOf': WHATEVER THE INPUT: true; the input reads as it did. -/
def fnExactDiagramOfSpec : ChangeSpec := { name := "fnExactDiagramOf", vars := ["loop.example/wholecheck/impl.firstColumns"], fn := fun _ => fun
  | [d1, d2, g1] => { results := [.lit (.bool true)], args := [d1, d2], vars := [g1] }
  | _ => none }
def fnExactDiagramOfRow : OpenClaim := { program := "ytnhjcokmajejcaadoor", sum := "219bfc9ebd01826ca752a3e45ea9ea7c53308f4ca91607e1eea8e4d1a83c9aef", func := "loop.example/wholecheck/laws.FnExactDiagramOf", spec := "fnExactDiagramOf", unfollowed := true, recurses := true, named := ["loop.example/wholecheck/impl.firstColumns"], plainKeys := false, apart := false, laid := [("loop.example/wholecheck/impl.firstColumns", laid_loop_example_wholecheck_impl_firstColumns)] }
def FnExactDiagramOfSaid : Prop := fnExactDiagramOfRow.holds Tryd.pinned (OpenSpec.ofChange fnExactDiagramOfSpec)

/-- ITS FALSE NEIGHBOUR: 'it returns false'. Refute it at one input. -/
def fnExactDiagramOfWrong : ChangeSpec := { name := "fnExactDiagramOf", vars := ["loop.example/wholecheck/impl.firstColumns"], fn := fun _ => fun
  | [d1, d2, g1] => { results := [.lit (.bool false)], args := [d1, d2], vars := [g1] }
  | _ => none }
def FnExactDiagramOfWrongFalsely : Prop := fnExactDiagramOfRow.holds Tryd.pinned (OpenSpec.ofChange fnExactDiagramOfWrong)

/-- 'laws.FnExactReordered': WHATEVER THE INPUT: true; the input reads as it did. -/
def fnExactReorderedSpec : ChangeSpec := { name := "fnExactReordered", vars := ["loop.example/wholecheck/impl.firstColumns"], fn := fun _ => fun
  | [d1, d2, d3, g1] => { results := [.lit (.bool true)], args := [d1, d2, d3], vars := [g1] }
  | _ => none }
def fnExactReorderedRow : OpenClaim := { program := "ytnhjcokmajejcaadoor", sum := "219bfc9ebd01826ca752a3e45ea9ea7c53308f4ca91607e1eea8e4d1a83c9aef", func := "loop.example/wholecheck/laws.FnExactReordered", spec := "fnExactReordered", unfollowed := true, recurses := true, named := ["loop.example/wholecheck/impl.firstColumns"], plainKeys := false, apart := false, laid := [("loop.example/wholecheck/impl.firstColumns", laid_loop_example_wholecheck_impl_firstColumns)] }
def FnExactReorderedSaid : Prop := fnExactReorderedRow.holds Tryd.pinned (OpenSpec.ofChange fnExactReorderedSpec)

/-- ITS FALSE NEIGHBOUR: 'it returns false'. Refute it at one input. -/
def fnExactReorderedWrong : ChangeSpec := { name := "fnExactReordered", vars := ["loop.example/wholecheck/impl.firstColumns"], fn := fun _ => fun
  | [d1, d2, d3, g1] => { results := [.lit (.bool false)], args := [d1, d2, d3], vars := [g1] }
  | _ => none }
def FnExactReorderedWrongFalsely : Prop := fnExactReorderedRow.holds Tryd.pinned (OpenSpec.ofChange fnExactReorderedWrong)

/-- 'laws.FnExactSwapOrder': WHATEVER THE INPUT: true; the input reads as it did. -/
def fnExactSwapOrderSpec : ChangeSpec := { name := "fnExactSwapOrder", vars := ["loop.example/wholecheck/impl.firstColumns"], fn := fun _ => fun
  | [d1, d2, d3, g1] => { results := [.lit (.bool true)], args := [d1, d2, d3], vars := [g1] }
  | _ => none }
def fnExactSwapOrderRow : OpenClaim := { program := "ytnhjcokmajejcaadoor", sum := "219bfc9ebd01826ca752a3e45ea9ea7c53308f4ca91607e1eea8e4d1a83c9aef", func := "loop.example/wholecheck/laws.FnExactSwapOrder", spec := "fnExactSwapOrder", unfollowed := true, recurses := true, named := ["loop.example/wholecheck/impl.firstColumns"], plainKeys := false, apart := false, laid := [("loop.example/wholecheck/impl.firstColumns", laid_loop_example_wholecheck_impl_firstColumns)] }
def FnExactSwapOrderSaid : Prop := fnExactSwapOrderRow.holds Tryd.pinned (OpenSpec.ofChange fnExactSwapOrderSpec)

/-- ITS FALSE NEIGHBOUR: 'it returns false'. Refute it at one input. -/
def fnExactSwapOrderWrong : ChangeSpec := { name := "fnExactSwapOrder", vars := ["loop.example/wholecheck/impl.firstColumns"], fn := fun _ => fun
  | [d1, d2, d3, g1] => { results := [.lit (.bool false)], args := [d1, d2, d3], vars := [g1] }
  | _ => none }
def FnExactSwapOrderWrongFalsely : Prop := fnExactSwapOrderRow.holds Tryd.pinned (OpenSpec.ofChange fnExactSwapOrderWrong)

/- THE SECOND FORM. 'bulk': how many values and letters a reading holds, each counted each time it is reached (what is shared counts as often as it is met; a slice's spare places count too). A statement '..UptoSaid' is the law's where the arguments, and the package variables that the reading takes, are together of bulk at most 1048576: NARROWER than '..Said'. Prove '..Said' where nothing that the law and all that it calls make is longer than what came in: it says more and counts as full. Else prove '..UptoSaid'. A law counts once. -/
mutual
def uptoBulk {H : Type} : DataW H → Nat
  | .lit (.string bytes) => bytes.length + 1
  | .lit _ => 1
  | .nil => 1
  | .ptr d => uptoBulk d + 1
  | .slice elems spare => uptoBulkAll elems + uptoBulkAll spare + 1
  | .agg parts => uptoBulkAll parts + 1
  | .iface _ d => uptoBulk d + 1
  | .map entries => uptoBulkEntries entries + 1
  | .held _ => 1
def uptoBulkAll {H : Type} : List (DataW H) → Nat
  | [] => 0
  | d :: r => uptoBulk d + uptoBulkAll r
def uptoBulkEntries {H : Type} : List (Lit × DataW H) → Nat
  | [] => 0
  | x :: r => uptoBulkEntry x + uptoBulkEntries r
def uptoBulkEntry {H : Type} : Lit × DataW H → Nat
  | (.string bytes, d) => bytes.length + uptoBulk d + 1
  | (_, d) => uptoBulk d + 1
 end
def uptoSmall : (H : Type) → List (DataW H) → Bool := fun _ ds => decide (uptoBulkAll ds ≤ 1048576)
def OpenSpec.upto (s : _root_.Go.ChangeSpec) : _root_.Go.OpenSpec := { _root_.Go.OpenSpec.ofChange s with cond := some uptoSmall }

/-- 'laws.FnExactSameEdges', WHERE WHAT IT READS IS OF BULK AT MOST 1048576: true; the input reads as it did. -/
def fnExactSameEdgesUptoRow : OpenClaim := { program := "ytnhjcokmajejcaadoor", sum := "219bfc9ebd01826ca752a3e45ea9ea7c53308f4ca91607e1eea8e4d1a83c9aef", func := "loop.example/wholecheck/laws.FnExactSameEdges", spec := "fnExactSameEdges", unfollowed := true, recurses := true, named := ["loop.example/wholecheck/impl.firstColumns"], plainKeys := false, apart := false, laid := [("loop.example/wholecheck/impl.firstColumns", laid_loop_example_wholecheck_impl_firstColumns)], narrowed := true }
def FnExactSameEdgesUptoSaid : Prop := fnExactSameEdgesUptoRow.holds Tryd.pinned (OpenSpec.upto fnExactSameEdgesSpec)

/-- 'laws.FnExactDiagramOf', WHERE WHAT IT READS IS OF BULK AT MOST 1048576: true; the input reads as it did. -/
def fnExactDiagramOfUptoRow : OpenClaim := { program := "ytnhjcokmajejcaadoor", sum := "219bfc9ebd01826ca752a3e45ea9ea7c53308f4ca91607e1eea8e4d1a83c9aef", func := "loop.example/wholecheck/laws.FnExactDiagramOf", spec := "fnExactDiagramOf", unfollowed := true, recurses := true, named := ["loop.example/wholecheck/impl.firstColumns"], plainKeys := false, apart := false, laid := [("loop.example/wholecheck/impl.firstColumns", laid_loop_example_wholecheck_impl_firstColumns)], narrowed := true }
def FnExactDiagramOfUptoSaid : Prop := fnExactDiagramOfUptoRow.holds Tryd.pinned (OpenSpec.upto fnExactDiagramOfSpec)

/-- 'laws.FnExactReordered', WHERE WHAT IT READS IS OF BULK AT MOST 1048576: true; the input reads as it did. -/
def fnExactReorderedUptoRow : OpenClaim := { program := "ytnhjcokmajejcaadoor", sum := "219bfc9ebd01826ca752a3e45ea9ea7c53308f4ca91607e1eea8e4d1a83c9aef", func := "loop.example/wholecheck/laws.FnExactReordered", spec := "fnExactReordered", unfollowed := true, recurses := true, named := ["loop.example/wholecheck/impl.firstColumns"], plainKeys := false, apart := false, laid := [("loop.example/wholecheck/impl.firstColumns", laid_loop_example_wholecheck_impl_firstColumns)], narrowed := true }
def FnExactReorderedUptoSaid : Prop := fnExactReorderedUptoRow.holds Tryd.pinned (OpenSpec.upto fnExactReorderedSpec)

/-- 'laws.FnExactSwapOrder', WHERE WHAT IT READS IS OF BULK AT MOST 1048576: true; the input reads as it did. -/
def fnExactSwapOrderUptoRow : OpenClaim := { program := "ytnhjcokmajejcaadoor", sum := "219bfc9ebd01826ca752a3e45ea9ea7c53308f4ca91607e1eea8e4d1a83c9aef", func := "loop.example/wholecheck/laws.FnExactSwapOrder", spec := "fnExactSwapOrder", unfollowed := true, recurses := true, named := ["loop.example/wholecheck/impl.firstColumns"], plainKeys := false, apart := false, laid := [("loop.example/wholecheck/impl.firstColumns", laid_loop_example_wholecheck_impl_firstColumns)], narrowed := true }
def FnExactSwapOrderUptoSaid : Prop := fnExactSwapOrderUptoRow.holds Tryd.pinned (OpenSpec.upto fnExactSwapOrderSpec)

end Rows
end Go.Proofs.YtnhjcokmajejcaaDoor
