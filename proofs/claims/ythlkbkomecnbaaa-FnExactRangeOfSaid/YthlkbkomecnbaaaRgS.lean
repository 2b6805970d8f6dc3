/- The ends of a term, in the model (without products and equality). -/
import Derived.Test.YthlkbkomecnbaaaRgP
import Derived.Test.YthlkbkomecnbaaaIl
namespace Go.Proofs.Ythlkbkomecnbaaa
open Go.RowKit
set_option maxRecDepth 100000

set_option maxHeartbeats 2000000 in
theorem l1Four_any (q : List Int) (p0 p1 p2 p3 : Int) (w : World) (hq : q = [p0, p1, p2, p3]) :
    Calls Try.prog 113 #[.int .i64 p0, .int .i64 p1, .int .i64 p2, .int .i64 p3] w (GivesInts w [mnL q 3, mxL q 3]) := by
  have Q0 : mnL q 0 = p0 := by rw [hq]; rfl
  have Q0' : mxL q 0 = p0 := by rw [hq]; rfl
  have HC0 : Hid (∀ j, j < 3 → (w.alloc (.cells #[.int .i64 p1, .int .i64 p2, .int .i64 p3] 3)).cell? ⟨w.heap.size, j, none⟩ = some (.int .i64 (ix q (j + 1)))) := Lib.hid (by
    intro j hj
    rw [hq]
    obtain rfl | rfl | rfl : j = 0 ∨ j = 1 ∨ j = 2 := by omega
    all_goals exact World.cell?_alloc_at _ _ _ _ rfl)
  clear hq
  go_enter Try.func113, Try.ntmps113
  go_wp2
  go_loopg [9, 10, 12] 3 (fun g m m' i wr => ∃ k : Nat, k + g = 3 ∧ i = .int .i64 k ∧ m = .int .i64 (mnL q k) ∧ m' = .int .i64 (mxL q k) ∧ Hid (∀ j, j < 3 → wr.cell? ⟨w.heap.size, j, none⟩ = some (.int .i64 (ix q (j + 1)))) ∧ Hid (Below w.heap.size w wr))
  case atStart => exact ⟨0, by omega, rfl, by rw [Q0], by rw [Q0'], HC0, Lib.hid (below_alloc _ _)⟩
  case round =>
    clear Q0 Q0' HC0
    obtain ⟨k, hk, rfl, rfl, rfl, HC, HB⟩ := hrel
    by_cases hlt : k < 3
    · have ck := HC.out k hlt
      have S : Hid (mnL q (k + 1) = if ix q (k + 1) < mnL q k then ix q (k + 1) else mnL q k) := Lib.hid rfl
      have S2 : Hid (mxL q (k + 1) = if mxL q k < ix q (k + 1) then ix q (k + 1) else mxL q k) := Lib.hid rfl
      generalize hm : mnL q k = m at *
      generalize hm2 : mxL q k = m2 at *
      generalize hz : ix q (k + 1) = z at *
      clear hm hm2 hz
      by_cases hs : z < m
      · have S' : Hid (mnL q (k + 1) = z) := Lib.hid (by rw [S.out, if_pos hs])
        by_cases hs2 : m2 < z
        · have S2' : Hid (mxL q (k + 1) = z) := Lib.hid (by rw [S2.out, if_pos hs2])
          go_wp2
          go_roundg (3 - (k + 1))
          case measure => omega
          case rel => exact ⟨k + 1, by omega, by go_num, by rw [S'.out], by rw [S2'.out], HC, HB⟩
        · have S2' : Hid (mxL q (k + 1) = m2) := Lib.hid (by rw [S2.out, if_neg hs2])
          go_wp2
          go_roundg (3 - (k + 1))
          case measure => omega
          case rel => exact ⟨k + 1, by omega, by go_num, by rw [S'.out], by rw [S2'.out], HC, HB⟩
      · have S' : Hid (mnL q (k + 1) = m) := Lib.hid (by rw [S.out, if_neg hs])
        by_cases hs2 : m2 < z
        · have S2' : Hid (mxL q (k + 1) = z) := Lib.hid (by rw [S2.out, if_pos hs2])
          go_wp2
          go_roundg (3 - (k + 1))
          case measure => omega
          case rel => exact ⟨k + 1, by omega, by go_num, by rw [S'.out], by rw [S2'.out], HC, HB⟩
        · have S2' : Hid (mxL q (k + 1) = m2) := Lib.hid (by rw [S2.out, if_neg hs2])
          go_wp2
          go_roundg (3 - (k + 1))
          case measure => omega
          case rel => exact ⟨k + 1, by omega, by go_num, by rw [S'.out], by rw [S2'.out], HC, HB⟩
    · obtain rfl : k = 3 := by omega
      have s := HB.out.size
      have hown0 := World.ownsRow_lit (base := w.heap.size) (e := 3) (size := 1) wr #[.int .i64 (mnL q 3), .int .i64 (mxL q 3)] 2 s (by unfold maxLen; omega) rfl
      generalize mnL q 3 = m at *
      generalize mxL q 3 = m2 at *
      go_wp2
      go_ret
      exact ⟨_, rfl, hown0, HB.out.alloc s _⟩

def twoOf (e : En) : List Int := [e.lo, e.hi]
end Go.Proofs.Ythlkbkomecnbaaa
