/- The model's use of a rule in a state. -/
import Derived.Test.YtnhjcokmajejcaaPt
import Derived.Test.YtnhjcokmajejcaaIl
import Derived.Deep.RegionHeld3
namespace Go.Proofs.Ytnhjcokmajejcaa
open Go.RowKit

theorem set_far {w : World} {g o : Nat} {u v : Value} {p : Addr} (h : p.block ≠ g) (c : w.cell? p = some v) : (w.setCell ⟨g, o, none⟩ u).cell? p = some v :=
  (World.cell?_of_block (setCell_heap w ⟨g, o, none⟩ u h)).trans c
theorem ix_el {l : List Int} {k : Nat} : ix l k = el l k := rfl
theorem row_form {w : World} {base size n : Nat} {e : TypeId} {v : Value} {xs : List Value} (h : w.ownsRow base e size v n xs) (hn : 0 < n) : ∃ g cap, v = .slice (some ⟨g, 0, none⟩) n cap := by
  rcases h.2 with ⟨rfl, h0⟩ | ⟨g, cap, _, rfl, _⟩
  · omega
  · exact ⟨g, cap, rfl⟩
theorem rule_box {w : World} {v1 v2 u1 u2 u3 : Value} : ∀ W, Below ((w.alloc (.cells #[v1, v2] 33)).alloc (.cells #[u1, u2, u3] 128)).heap.size ((w.alloc (.cells #[v1, v2] 33)).alloc (.cells #[u1, u2, u3] 128)) W →
    Below w.heap.size w W ∧ W.cell? ⟨w.heap.size, 0, none⟩ = some v1 ∧ W.cell? ⟨w.heap.size, 1, none⟩ = some v2 ∧ W.cell? ⟨w.heap.size + 1, 0, none⟩ = some u1 ∧ W.cell? ⟨w.heap.size + 1, 1, none⟩ = some u2 ∧ W.cell? ⟨w.heap.size + 1, 2, none⟩ = some u3 ∧ w.heap.size + 2 ≤ W.heap.size := fun W hW => by
  have k1 := sy_box (v1 := v1) (v2 := v2) W (below_call hW)
  have k2 := Blk.new (w.alloc (.cells #[v1, v2] 33)) #[u1, u2, u3] 128
  have k3 := k2.below hW (by simp)
  have hs := hW.size
  rw [World.size_alloc] at k3
  simp at hs
  exact ⟨k1.1, k1.2.1, k1.2.2, k3.cell 0, k3.cell 1, k3.cell 2, by omega⟩

theorem made_succ (R : Rl) (st : List Int) {k v : Nat} (h : ix R.sets k = v) : madeTo R st (k + 1) = (madeTo R st k).set v (valB (el R.terms k) st) := by
  show (madeTo R st k).set (ix R.sets k).toNat _ = _
  rw [h]; rfl
theorem ints_set (l : List Int) (v : Nat) (x : Int) : (ints l).set v (.int .i64 x) = ints (l.set v x) := by unfold ints; rw [List.map_set]

end Go.Proofs.Ytnhjcokmajejcaa
