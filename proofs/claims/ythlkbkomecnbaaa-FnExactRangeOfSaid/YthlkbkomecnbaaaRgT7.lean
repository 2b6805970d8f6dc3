/- Between which values an operation lies, in the model. -/
import Derived.Test.YthlkbkomecnbaaaRgS
namespace Go.Proofs.Ythlkbkomecnbaaa
open Go.RowKit
set_option maxRecDepth 100000

section
variable (ad ad' : Addr) (c c' : Nat) (x1 x2 y1 y2 : Int) (w : World) (la : ad.block < w.heap.size) (la' : ad'.block < w.heap.size)
  (a0 : w.cell? (ad.add 0) = some (.int .i64 x1)) (a1 : w.cell? (ad.add 1) = some (.int .i64 x2)) (b0 : w.cell? (ad'.add 0) = some (.int .i64 y1)) (b1 : w.cell? (ad'.add 1) = some (.int .i64 y2))
  (bx : -9999 ≤ x1) (bx' : x1 ≤ 9999) (cx : -9999 ≤ x2) (cx' : x2 ≤ 9999) (bY : -9999 ≤ y1) (by' : y1 ≤ 9999) (cy : -9999 ≤ y2) (cy' : y2 ≤ 9999)
include la la' a0 a1 b0 b1 bx bx' cx cx' bY by' cy cy'
omit bY by' cy cy' in
set_option maxHeartbeats 8000000 in
theorem between_7 : Calls Try.prog 83 #[.int .i64 7, .slice (some ad) 2 c, .slice (some ad') 2 c'] w (GivesInts w [1 - x2, 1 - x1]) := by
  rw [add_zero'] at a0 b0
  rw [add_pos _ (by decide)] at a1 b1
  have O := Lib.hid (World.ownsRow_lit (base := w.heap.size) (e := 3) (size := 1) w #[.int .i64 (1 - x2), .int .i64 (1 - x1)] 2 (Nat.le_refl _) (by unfold maxLen; omega) rfl)
  have p0 := fun o => (World.cell?_alloc_lt w o ad la).trans a0
  have p1 := fun o => (World.cell?_alloc_lt w o ⟨ad.block, ad.off + 1, none⟩ la).trans a1
  have q0 := fun o => (World.cell?_alloc_lt w o ad' la').trans b0
  have q1 := fun o => (World.cell?_alloc_lt w o ⟨ad'.block, ad'.off + 1, none⟩ la').trans b1
  go_enter Try.func83, Try.ntmps83
  go_wp2
  go_region
  all_goals
    go_wp2
    go_ret
    first
      | exact ⟨_, rfl, O.out, below_alloc _ _⟩
      | exact ⟨_, rfl, O.out, (below_alloc _ _).drew⟩
      | exact ⟨_, rfl, O.out.drew, (below_alloc _ _).drew⟩
      | exact ⟨_, rfl, O.out, below_drewN (below_alloc _ _) _⟩
end
end Go.Proofs.Ythlkbkomecnbaaa
