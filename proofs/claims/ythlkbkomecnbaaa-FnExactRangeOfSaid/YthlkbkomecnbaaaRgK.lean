/- The ends of a term, in the program. -/
import Derived.Test.YthlkbkomecnbaaaRgI
import Derived.Test.YthlkbkomecnbaaaRgA
namespace Go.Proofs.Ythlkbkomecnbaaa
open Go.RowKit
set_option maxRecDepth 100000

set_option maxHeartbeats 2000000 in
theorem productEnds_any (a b : En) (w : World) (ha : -9999 ≤ a.lo ∧ a.lo ≤ 9999 ∧ -9999 ≤ a.hi ∧ a.hi ≤ 9999) (hb : -9999 ≤ b.lo ∧ b.lo ≤ 9999 ∧ -9999 ≤ b.hi ∧ b.hi ≤ 9999) :
    Calls Try.prog 119 #[a.v, b.v] w (GivesV w (En.v ⟨hld (mnL (four a b) 3), hld (mxL (four a b) 3)⟩)) := by
  obtain ⟨x1, x2⟩ := a
  obtain ⟨y1, y2⟩ := b
  dsimp only at ha hb
  obtain ⟨p1, p1'⟩ := mul_in ha.1 ha.2.1 hb.1 hb.2.1
  obtain ⟨p2, p2'⟩ := mul_in ha.1 ha.2.1 hb.2.2.1 hb.2.2.2
  obtain ⟨p3, p3'⟩ := mul_in ha.2.2.1 ha.2.2.2 hb.1 hb.2.1
  obtain ⟨p4, p4'⟩ := mul_in ha.2.2.1 ha.2.2.2 hb.2.2.1 hb.2.2.2
  clear ha hb
  have MN := Lib.hid (fun ad c W hc => min4_any ad c (four ⟨x1, x2⟩ ⟨y1, y2⟩) W hc)
  have MX := Lib.hid (fun ad c W hc => max4_any ad c (four ⟨x1, x2⟩ ⟨y1, y2⟩) W hc)
  have F : Hid (four ⟨x1, x2⟩ ⟨y1, y2⟩ = [x1 * y1, x1 * y2, x2 * y1, x2 * y2]) := Lib.hid rfl
  generalize four ⟨x1, x2⟩ ⟨y1, y2⟩ = q at *
  generalize hmn : mnL q 3 = mn at *
  generalize hmx : mxL q 3 = mx at *
  unfold En.v
  dsimp only
  go_enter Try.func119, Try.ntmps119
  go_wp2
  go_region_with (first
    | (go_at_call 150; refine (MN.out _ _ _ (by rw [F.out]; intro j hj; rw [cell_at]; obtain rfl | rfl | rfl | rfl : j = 0 ∨ j = 1 ∨ j = 2 ∨ j = 3 := (by omega) <;> (simp [go_sem, ix]; done))).mono ?_; rintro e w1 ⟨rfl, rfl⟩)
    | (go_at_call 151; refine (MX.out _ _ _ (by rw [F.out]; intro j hj; rw [cell_at]; obtain rfl | rfl | rfl | rfl : j = 0 ∨ j = 1 ∨ j = 2 ∨ j = 3 := (by omega) <;> (simp [go_sem, ix]; done))).mono ?_; rintro e w1 ⟨rfl, rfl⟩)
    | (go_at_call 118; refine (held_any _ _).mono ?_; rintro e w1 ⟨rfl, rfl⟩))
  all_goals
    go_wp2
    refine bodyPost_ret (v := .agg #[.int .i64 (hld mn), .int .i64 (hld mx)]) (by simp [results, Try.results119, go_sem]) rfl ⟨rfl, ?_⟩
    first | exact bel4 _ _ _ _ _ | exact (bel4 _ _ _ _ _).drew | exact (bel4 _ _ _ _ _).drew.drew | exact below_drewN (bel4 _ _ _ _ _) _
end Go.Proofs.Ythlkbkomecnbaaa
