/- Boxes of a call. -/
import Derived.Test.YthlkbkomecnbaaaRgP
import Derived.Test.YthlkbkomecnbaaaGen
namespace Go.Proofs.Ythlkbkomecnbaaa
open Go.RowKit

theorem al2 {w : World} {a : Addr} {v : Value} (hb : a.block < w.heap.size) (h : w.cell? a = some v) : ∀ o o', ((w.alloc o).alloc o').cell? a = some v := fun o o' =>
  (World.cell?_alloc_lt _ o' a (by simp <;> omega)).trans ((World.cell?_alloc_lt w o a hb).trans h)
theorem al3 {w : World} {a : Addr} {v : Value} (hb : a.block < w.heap.size) (h : w.cell? a = some v) : ∀ o o' o2, (((w.alloc o).alloc o').alloc o2).cell? a = some v := fun o o' o2 =>
  (World.cell?_alloc_lt _ o2 a (by simp <;> omega)).trans (al2 hb h o o')
theorem al4 {w : World} {a : Addr} {v : Value} (hb : a.block < w.heap.size) (h : w.cell? a = some v) : ∀ o o' o2 o3, ((((w.alloc o).alloc o').alloc o2).alloc o3).cell? a = some v := fun o o' o2 o3 =>
  (World.cell?_alloc_lt _ o3 a (by simp <;> omega)).trans (al3 hb h o o' o2)
theorem bel4 (w : World) (a b c d : Obj) : Below w.heap.size w ((((w.alloc a).alloc b).alloc c).alloc d) :=
  ((((Below.refl _ _).alloc (Nat.le_refl _) _).alloc (by simp) _).alloc (by simp <;> omega) _).alloc (by simp <;> omega) _
theorem box4 (w : World) (o1 o3 o4 : Obj) (a2 : Array Value) (t2 : TypeId) {W : World} (hW : Below ((((w.alloc o1).alloc (.cells a2 t2)).alloc o3).alloc o4).heap.size ((((w.alloc o1).alloc (.cells a2 t2)).alloc o3).alloc o4) W) :
    Below w.heap.size w W ∧ Blk W (w.heap.size + 1) t2 a2.toList := by
  have k1 := (((ci_blk (w.alloc o1) a2 t2).alloc o3).alloc o4).below hW (by simp <;> omega)
  rw [World.size_alloc] at k1
  exact ⟨(bel4 w _ _ _ _).trans (hW.mono (by simp <;> omega)), k1⟩
end Go.Proofs.Ythlkbkomecnbaaa
