/- Two sets of numbers together: the program's words. -/
import Derived.Test.YtmlhnnkdecabpaaDoorTz
namespace Go.Proofs.YtmlhnnkdecabpaaDoor
open Go.RowKit

set_option maxRecDepth 100000 in
set_option maxHeartbeats 2000000 in
theorem both_any (P Q : Nat → Bool) (w : World) :
    Calls Tryd.prog 63 #[wsV P, wsV Q] w (GivesV w (wsV fun x => P x && Q x)) := by
  obtain ⟨R, hR⟩ : ∃ R : Nat → Bool, R = fun x => P x && Q x := ⟨_, rfl⟩
  rw [← hR]
  have HB := Lib.hid (fun k => show bits BinOp.and IntKind.u64 ((wd P k : Nat) : Int) ((wd Q k : Nat) : Int) = ((wd R k : Nat) : Int) by
    rw [hR, bits_and_u64_nat _ _ (wd_lt _ _) (wd_lt _ _), wd_and])
  clear hR
  obtain ⟨W0, hW0⟩ : ∃ W0, W0 = (((w.alloc (.cells #[.int .u64 (wd P 0), .int .u64 (wd P 1), .int .u64 (wd P 2), .int .u64 (wd P 3), .int .u64 (wd P 4), .int .u64 (wd P 5), .int .u64 (wd P 6)] 64)).alloc
    (.cells #[.int .u64 (wd Q 0), .int .u64 (wd Q 1), .int .u64 (wd Q 2), .int .u64 (wd Q 3), .int .u64 (wd Q 4), .int .u64 (wd Q 5), .int .u64 (wd Q 6)] 64)).alloc
    (.cells #[.int .u64 0, .int .u64 0, .int .u64 0, .int .u64 0, .int .u64 0, .int .u64 0, .int .u64 0] 64)) := ⟨_, rfl⟩
  have B0 : Below w.heap.size w W0 := by rw [hW0]; exact (below_alloc _ _).trans (((below_alloc _ _).trans ((below_alloc _ _).mono (by simp))).mono (by simp))
  have Z0 : Blk W0 w.heap.size 64 (mixC P R 0) := by rw [hW0]; exact ((Blk.new w (wsC P).toArray 64).alloc _).alloc _
  have Y0 : Blk W0 (w.heap.size + 2) 64 [.int .u64 0, .int .u64 0, .int .u64 0, .int .u64 0, .int .u64 0, .int .u64 0, .int .u64 0] := by
    rw [hW0]
    have := Blk.new ((w.alloc (.cells (wsC P).toArray 64)).alloc (.cells (wsC Q).toArray 64)) #[.int .u64 0, .int .u64 0, .int .u64 0, .int .u64 0, .int .u64 0, .int .u64 0, .int .u64 0] 64
    rw [World.size_alloc, World.size_alloc] at this
    exact this
  have B0 := Lib.hid B0
  have Z0 := Lib.hid Z0
  have Y0 := Lib.hid Y0
  unfold wsV
  go_enter Tryd.func63, Tryd.ntmps63
  go_wp2
  rw [← hW0]
  clear hW0
  go_loopg [5, 6, 8] 7 (fun m i5 i6 i wr => ∃ k : Nat, k + m = 7 ∧ i = .int .i64 k ∧ Hid (Blk wr w.heap.size 64 (mixC P R k)) ∧ Hid (Blk wr (w.heap.size + 2) 64 [.int .u64 0, .int .u64 0, .int .u64 0, .int .u64 0, .int .u64 0, .int .u64 0, .int .u64 0]) ∧ Hid (Below w.heap.size w wr))
  case atStart => exact ⟨0, by omega, rfl, Z0, Y0, B0⟩
  case round =>
    clear Z0 Y0 B0
    obtain ⟨k, hk, rfl, hz, hy, hb⟩ := hrel
    by_cases hlt : k < 7
    · have hc : wr.cell? ⟨w.heap.size, k, none⟩ = some (.int .u64 (wd P k)) := by rw [hz.out.cell, mixC_at P R k k hlt, if_neg (by omega)]
      have hf := hz.out.frozen k
      have HIX := fun W => run_ws_index w.heap.size k hlt W
      have hor := HB.out k
      have hlt' : (k : Int) < 7 := by omega
      have HAT := fun W => run_ws_at Q W k hlt
      go_wp2
      go_roundg (7 - (k + 1))
      case measure => omega
      case rel =>
        refine ⟨k + 1, by omega, by go_num, Lib.hid (hz.out.set k _), Lib.hid ?_, Lib.hid (hb.out.setCell (Nat.le_refl _) _)⟩
        exact (setCell_heap wr ⟨w.heap.size, k, none⟩ _ (by show w.heap.size + 2 ≠ w.heap.size; omega)).trans hy.out
    · obtain rfl : k = 7 := by omega
      have Z := hz.out
      rw [mixC_all] at Z
      obtain ⟨q0, q1, q2, q3, q4, q5, q6⟩ := ws_cells Z
      obtain ⟨y0, y1, y2, y3, y4, y5, y6⟩ := seven_cells hy.out
      obtain ⟨f0, f1, f2, f3, f4, f5, f6⟩ := seven_frozen hy.out
      clear Z
      go_wp2_with fail
      refine bodyPost_ret (v := wsV R) (by simp [results, Tryd.results63, go_sem, y0, y1, y2, y3, y4, y5, y6, wsV]) rfl ⟨rfl, ?_⟩
      exact ((((((hb.out.setCell (by show w.heap.size ≤ w.heap.size + 1 + 1; omega) _).setCell (by show w.heap.size ≤ w.heap.size + 1 + 1; omega) _).setCell (by show w.heap.size ≤ w.heap.size + 1 + 1; omega) _).setCell (by show w.heap.size ≤ w.heap.size + 1 + 1; omega) _).setCell (by show w.heap.size ≤ w.heap.size + 1 + 1; omega) _).setCell (by show w.heap.size ≤ w.heap.size + 1 + 1; omega) _).setCell (by show w.heap.size ≤ w.heap.size + 1 + 1; omega) _

set_option maxRecDepth 100000 in
set_option maxHeartbeats 2000000 in
theorem either_any (P Q : Nat → Bool) (w : World) :
    Calls Tryd.prog 58 #[wsV P, wsV Q] w (GivesV w (wsV fun x => P x || Q x)) := by
  obtain ⟨R, hR⟩ : ∃ R : Nat → Bool, R = fun x => P x || Q x := ⟨_, rfl⟩
  rw [← hR]
  have HB := Lib.hid (fun k => show bits BinOp.or IntKind.u64 ((wd P k : Nat) : Int) ((wd Q k : Nat) : Int) = ((wd R k : Nat) : Int) by
    rw [hR, bits_or_u64_nat _ _ (wd_lt _ _) (wd_lt _ _), wd_or])
  clear hR
  obtain ⟨W0, hW0⟩ : ∃ W0, W0 = (((w.alloc (.cells #[.int .u64 (wd P 0), .int .u64 (wd P 1), .int .u64 (wd P 2), .int .u64 (wd P 3), .int .u64 (wd P 4), .int .u64 (wd P 5), .int .u64 (wd P 6)] 64)).alloc
    (.cells #[.int .u64 (wd Q 0), .int .u64 (wd Q 1), .int .u64 (wd Q 2), .int .u64 (wd Q 3), .int .u64 (wd Q 4), .int .u64 (wd Q 5), .int .u64 (wd Q 6)] 64)).alloc
    (.cells #[.int .u64 0, .int .u64 0, .int .u64 0, .int .u64 0, .int .u64 0, .int .u64 0, .int .u64 0] 64)) := ⟨_, rfl⟩
  have B0 : Below w.heap.size w W0 := by rw [hW0]; exact (below_alloc _ _).trans (((below_alloc _ _).trans ((below_alloc _ _).mono (by simp))).mono (by simp))
  have Z0 : Blk W0 w.heap.size 64 (mixC P R 0) := by rw [hW0]; exact ((Blk.new w (wsC P).toArray 64).alloc _).alloc _
  have Y0 : Blk W0 (w.heap.size + 2) 64 [.int .u64 0, .int .u64 0, .int .u64 0, .int .u64 0, .int .u64 0, .int .u64 0, .int .u64 0] := by
    rw [hW0]
    have := Blk.new ((w.alloc (.cells (wsC P).toArray 64)).alloc (.cells (wsC Q).toArray 64)) #[.int .u64 0, .int .u64 0, .int .u64 0, .int .u64 0, .int .u64 0, .int .u64 0, .int .u64 0] 64
    rw [World.size_alloc, World.size_alloc] at this
    exact this
  have B0 := Lib.hid B0
  have Z0 := Lib.hid Z0
  have Y0 := Lib.hid Y0
  unfold wsV
  go_enter Tryd.func58, Tryd.ntmps58
  go_wp2
  rw [← hW0]
  clear hW0
  go_loopg [5, 6, 8] 7 (fun m i5 i6 i wr => ∃ k : Nat, k + m = 7 ∧ i = .int .i64 k ∧ Hid (Blk wr w.heap.size 64 (mixC P R k)) ∧ Hid (Blk wr (w.heap.size + 2) 64 [.int .u64 0, .int .u64 0, .int .u64 0, .int .u64 0, .int .u64 0, .int .u64 0, .int .u64 0]) ∧ Hid (Below w.heap.size w wr))
  case atStart => exact ⟨0, by omega, rfl, Z0, Y0, B0⟩
  case round =>
    clear Z0 Y0 B0
    obtain ⟨k, hk, rfl, hz, hy, hb⟩ := hrel
    by_cases hlt : k < 7
    · have hc : wr.cell? ⟨w.heap.size, k, none⟩ = some (.int .u64 (wd P k)) := by rw [hz.out.cell, mixC_at P R k k hlt, if_neg (by omega)]
      have hf := hz.out.frozen k
      have HIX := fun W => run_ws_index w.heap.size k hlt W
      have hor := HB.out k
      have hlt' : (k : Int) < 7 := by omega
      have HAT := fun W => run_ws_at Q W k hlt
      go_wp2
      go_roundg (7 - (k + 1))
      case measure => omega
      case rel =>
        refine ⟨k + 1, by omega, by go_num, Lib.hid (hz.out.set k _), Lib.hid ?_, Lib.hid (hb.out.setCell (Nat.le_refl _) _)⟩
        exact (setCell_heap wr ⟨w.heap.size, k, none⟩ _ (by show w.heap.size + 2 ≠ w.heap.size; omega)).trans hy.out
    · obtain rfl : k = 7 := by omega
      have Z := hz.out
      rw [mixC_all] at Z
      obtain ⟨q0, q1, q2, q3, q4, q5, q6⟩ := ws_cells Z
      obtain ⟨y0, y1, y2, y3, y4, y5, y6⟩ := seven_cells hy.out
      obtain ⟨f0, f1, f2, f3, f4, f5, f6⟩ := seven_frozen hy.out
      clear Z
      go_wp2_with fail
      refine bodyPost_ret (v := wsV R) (by simp [results, Tryd.results58, go_sem, y0, y1, y2, y3, y4, y5, y6, wsV]) rfl ⟨rfl, ?_⟩
      exact ((((((hb.out.setCell (by show w.heap.size ≤ w.heap.size + 1 + 1; omega) _).setCell (by show w.heap.size ≤ w.heap.size + 1 + 1; omega) _).setCell (by show w.heap.size ≤ w.heap.size + 1 + 1; omega) _).setCell (by show w.heap.size ≤ w.heap.size + 1 + 1; omega) _).setCell (by show w.heap.size ≤ w.heap.size + 1 + 1; omega) _).setCell (by show w.heap.size ≤ w.heap.size + 1 + 1; omega) _).setCell (by show w.heap.size ≤ w.heap.size + 1 + 1; omega) _

set_option maxRecDepth 100000 in
set_option maxHeartbeats 2000000 in
theorem without_any (P Q : Nat → Bool) (w : World) :
    Calls Tryd.prog 68 #[wsV P, wsV Q] w (GivesV w (wsV fun x => P x && !Q x)) := by
  obtain ⟨R, hR⟩ : ∃ R : Nat → Bool, R = fun x => P x && !Q x := ⟨_, rfl⟩
  rw [← hR]
  have HB := Lib.hid (fun k => show bits BinOp.andNot IntKind.u64 ((wd P k : Nat) : Int) ((wd Q k : Nat) : Int) = ((wd R k : Nat) : Int) by
    rw [hR, u64_andNot_nat _ _ (wd_lt _ _) (wd_lt _ _), wd_not])
  clear hR
  obtain ⟨W0, hW0⟩ : ∃ W0, W0 = (((w.alloc (.cells #[.int .u64 (wd P 0), .int .u64 (wd P 1), .int .u64 (wd P 2), .int .u64 (wd P 3), .int .u64 (wd P 4), .int .u64 (wd P 5), .int .u64 (wd P 6)] 64)).alloc
    (.cells #[.int .u64 (wd Q 0), .int .u64 (wd Q 1), .int .u64 (wd Q 2), .int .u64 (wd Q 3), .int .u64 (wd Q 4), .int .u64 (wd Q 5), .int .u64 (wd Q 6)] 64)).alloc
    (.cells #[.int .u64 0, .int .u64 0, .int .u64 0, .int .u64 0, .int .u64 0, .int .u64 0, .int .u64 0] 64)) := ⟨_, rfl⟩
  have B0 : Below w.heap.size w W0 := by rw [hW0]; exact (below_alloc _ _).trans (((below_alloc _ _).trans ((below_alloc _ _).mono (by simp))).mono (by simp))
  have Z0 : Blk W0 w.heap.size 64 (mixC P R 0) := by rw [hW0]; exact ((Blk.new w (wsC P).toArray 64).alloc _).alloc _
  have Y0 : Blk W0 (w.heap.size + 2) 64 [.int .u64 0, .int .u64 0, .int .u64 0, .int .u64 0, .int .u64 0, .int .u64 0, .int .u64 0] := by
    rw [hW0]
    have := Blk.new ((w.alloc (.cells (wsC P).toArray 64)).alloc (.cells (wsC Q).toArray 64)) #[.int .u64 0, .int .u64 0, .int .u64 0, .int .u64 0, .int .u64 0, .int .u64 0, .int .u64 0] 64
    rw [World.size_alloc, World.size_alloc] at this
    exact this
  have B0 := Lib.hid B0
  have Z0 := Lib.hid Z0
  have Y0 := Lib.hid Y0
  unfold wsV
  go_enter Tryd.func68, Tryd.ntmps68
  go_wp2
  rw [← hW0]
  clear hW0
  go_loopg [5, 6, 8] 7 (fun m i5 i6 i wr => ∃ k : Nat, k + m = 7 ∧ i = .int .i64 k ∧ Hid (Blk wr w.heap.size 64 (mixC P R k)) ∧ Hid (Blk wr (w.heap.size + 2) 64 [.int .u64 0, .int .u64 0, .int .u64 0, .int .u64 0, .int .u64 0, .int .u64 0, .int .u64 0]) ∧ Hid (Below w.heap.size w wr))
  case atStart => exact ⟨0, by omega, rfl, Z0, Y0, B0⟩
  case round =>
    clear Z0 Y0 B0
    obtain ⟨k, hk, rfl, hz, hy, hb⟩ := hrel
    by_cases hlt : k < 7
    · have hc : wr.cell? ⟨w.heap.size, k, none⟩ = some (.int .u64 (wd P k)) := by rw [hz.out.cell, mixC_at P R k k hlt, if_neg (by omega)]
      have hf := hz.out.frozen k
      have HIX := fun W => run_ws_index w.heap.size k hlt W
      have hor := HB.out k
      have hlt' : (k : Int) < 7 := by omega
      have HAT := fun W => run_ws_at Q W k hlt
      go_wp2
      go_roundg (7 - (k + 1))
      case measure => omega
      case rel =>
        refine ⟨k + 1, by omega, by go_num, Lib.hid (hz.out.set k _), Lib.hid ?_, Lib.hid (hb.out.setCell (Nat.le_refl _) _)⟩
        exact (setCell_heap wr ⟨w.heap.size, k, none⟩ _ (by show w.heap.size + 2 ≠ w.heap.size; omega)).trans hy.out
    · obtain rfl : k = 7 := by omega
      have Z := hz.out
      rw [mixC_all] at Z
      obtain ⟨q0, q1, q2, q3, q4, q5, q6⟩ := ws_cells Z
      obtain ⟨y0, y1, y2, y3, y4, y5, y6⟩ := seven_cells hy.out
      obtain ⟨f0, f1, f2, f3, f4, f5, f6⟩ := seven_frozen hy.out
      clear Z
      go_wp2_with fail
      refine bodyPost_ret (v := wsV R) (by simp [results, Tryd.results68, go_sem, y0, y1, y2, y3, y4, y5, y6, wsV]) rfl ⟨rfl, ?_⟩
      exact ((((((hb.out.setCell (by show w.heap.size ≤ w.heap.size + 1 + 1; omega) _).setCell (by show w.heap.size ≤ w.heap.size + 1 + 1; omega) _).setCell (by show w.heap.size ≤ w.heap.size + 1 + 1; omega) _).setCell (by show w.heap.size ≤ w.heap.size + 1 + 1; omega) _).setCell (by show w.heap.size ≤ w.heap.size + 1 + 1; omega) _).setCell (by show w.heap.size ≤ w.heap.size + 1 + 1; omega) _).setCell (by show w.heap.size ≤ w.heap.size + 1 + 1; omega) _
end Go.Proofs.YtmlhnnkdecabpaaDoor
