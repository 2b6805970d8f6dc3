/- Diagrams: what an operation makes of two places, in the program. -/
import Derived.Test.YtnhjcokmajejcaaDgQ
import Derived.Test.YtnhjcokmajejcaaSeq
import Derived.BigQuiet
namespace Go.Proofs.Ytnhjcokmajejcaa
open Go.RowKit
set_option maxRecDepth 100000

/-- The call does an operation. -/
def GivesRun (base g : Nat) (d : Dg) (op a b : Int) (full : Bool) (m : Nat) (w : World) (e : Ending) (w' : World) : Prop :=
  ∃ x d' full', e = .returned (.int .i64 x) ∧ MkD w' base g d' full' m ∧ Below base w w' ∧ Ran d op a b full x d' full' ∧ Frame g w w'
theorem mine_lt {w : World} {base g : Nat} {d : Dg} {full : Bool} {m b : Nat} (h : MkD w base g d full m) (hb : mine w g b) : b < w.heap.size := by
  obtain ⟨A, cc, bp, cp, Dp, br, cr, Dr, kg, ho, hp, c1, f1, hr, c2, f2, hd, hrow⟩ := h.mem
  rcases (mine_iff kg).1 hb with q | q | q | q
  · rw [q]; exact kg.lt
  · rw [q]; exact hp.lt
  · rw [q]; exact hr.lt
  · exact (ho.lt b q).2
theorem place_sml {d : Dg} {n : Int} (h : isP d n = true) (ok : d.Ok) : sml n := by
  have := isP_iff.1 h
  have := ok.few
  exact ⟨by omega, by omega⟩
theorem fitA_sml {d : Dg} {op a b : Int} (g : fitA d op a b) (ok : d.Ok) : sml op ∧ sml a ∧ sml b := by
  have h0 := g.o0
  have h1 := g.o1
  have hi := ok.hi
  refine ⟨⟨h0, by omega⟩, place_sml g.pa ok, ?_⟩
  by_cases o : op < 3
  · exact place_sml (g.pb o) ok
  · have := g.v0 (by omega)
    have := g.v1 (by omega)
    exact ⟨by omega, by omega⟩
/-- What stands at a maker: to call the diagram's functions there. -/
theorem mkD_row {w : World} {base g : Nat} {d : Dg} {full : Bool} {m : Nat} (h : MkD w base g d full m) : ∃ A cc bp br, Blk w g 162 [.int .i64 d.vars, .slice A d.forks.length cc, .map (some bp), .map (some br), .bool full] ∧ Mem.rd w w.heap.size [.slice A d.forks.length cc] d.forks ∧ d.forks.length ≤ 2000 ∧ g < w.heap.size ∧ base ≤ g := by
  obtain ⟨A, cc, bp, cp, Dp, br, cr, Dr, kg, ho, hp, c1, f1, hr, c2, f2, hd, hrow⟩ := h.mem
  have few := h.ok.few
  exact ⟨A, cc, bp, br, kg, rd_forks ho rfl (by omega), few, kg.lt, hd.1⟩

end Go.Proofs.Ytnhjcokmajejcaa
