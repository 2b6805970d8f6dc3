/- Circuits that are made: OR, picks and what is told, in the model. -/
import Derived.Test.YtnhjcokmajejcaaMkW
namespace Go.Proofs.Ytnhjcokmajejcaa
open Go.RowKit
set_option maxRecDepth 100000

/-- The call gives an edge, and if it is one, a circuit of its own; of what was there only the blocks fp have changed. -/
def GivesCW (base : Nat) (fp : List Nat) (w : World) (r : Ci × Int) (e : Ending) (w' : World) : Prop :=
  ∃ m A n c, e = .returned (.tuple #[.agg #[.int .i64 m, .slice A n c], .int .i64 r.2]) ∧ (0 ≤ r.2 → m = r.1.ins ∧ n = r.1.gates.length ∧ w'.ownsRow base 90 2 (.slice A n c) n (fl r.1.gates)) ∧ Only fp w w' ∧ ∀ x ∈ bl (.slice A n c), x ∈ fp ∨ w.heap.size ≤ x
theorem GivesCE.cw {base : Nat} {fp : List Nat} {w w' : World} {r : Ci × Int} {e : Ending} (h : GivesCE base fp w r e w') : GivesCW base fp w r e w' := by
  obtain ⟨A, c, rfl, ho, hb, hl⟩ := h
  exact ⟨_, A, _, c, rfl, fun _ => ⟨rfl, rfl, ho⟩, hb, hl⟩
theorem cell_set_far {w : World} {p q : Addr} {u v : Value} (h : w.cell? p = some v) (hne : p.block ≠ q.block) : (w.setCell q u).cell? p = some v := (World.cell?_of_block (setCell_heap w q u hne)).trans h
theorem notE_lo {e : Int} (h : -1 ≤ e) : -1 ≤ notE e ∧ (0 ≤ notE e ↔ 0 ≤ e) := by unfold notE; split <;> omega
theorem notE_hi {e : Int} (h : e < 2000) : notE e < 2000 := by unfold notE; split <;> omega

end Go.Proofs.Ytnhjcokmajejcaa
