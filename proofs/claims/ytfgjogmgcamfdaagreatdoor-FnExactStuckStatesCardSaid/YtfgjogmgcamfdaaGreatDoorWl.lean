/- A set of words from numbers, and its numbers: the program's words. -/
import Derived.Test.YtfgjogmgcamfdaaGreatDoorWord
import Derived.Test.YtfgjogmgcamfdaaGreatDoorEvalB
import Derived.Test.YtfgjogmgcamfdaaGreatDoorIntApp
import Derived.Shelf.Spec.TrailingZeros
import Derived.RegionTactic
import Derived.BigRegion
import Derived.Test.YtfgjogmgcamfdaaGreatDoorIl
namespace Go.Proofs.YtfgjogmgcamfdaaGreatDoor
open Go.RowKit

/-- The library's table lies where the program's start laid it. -/
def DoorAt (w : World) : Prop := 0 < w.heap.size ∧ TabAt 0 Lib.deBruijn64tab w
theorem DoorAt.on {w w' : World} (h : DoorAt w) (hb : Below w.heap.size w w') : DoorAt w' :=
  ⟨Nat.lt_of_lt_of_le h.1 hb.size, fun j hj => (hb.cell (p := ⟨0, j, none⟩) h.1).trans (h.2 j hj)⟩
theorem DoorAt.on_alloc {w : World} (h : DoorAt w) (o : Obj) : DoorAt (w.alloc o) := h.on (below_alloc w o)
theorem DoorAt.drew {w : World} (h : DoorAt w) : DoorAt w.drew := h

set_option maxHeartbeats 1000000 in
theorem tz_core (x k idx : Nat) (w : World) (hx0 : ((x : Int) == 0) = false)
    (key : IntKind.u64.wrap (bits BinOp.and IntKind.u64 (x : Int) (IntKind.u64.wrap (-(x : Int))) * 285870213051353865) / 288230376151711744 = (idx : Int))
    (hi : idx < 64) (hk : k < 64) (hcell : w.cell? ⟨0, idx, none⟩ = some (.int .u8 k)) :
    Calls Tryz.prog 78 #[.int .u64 x] w fun e w' => e = .returned (.int .i64 k) ∧ w' = w := by
  go_enter Tryz.func78, Tryz.ntmps78
  go_wp2_with (simp only [key])
  go_ret
  exact ⟨rfl, rfl⟩

theorem tz_any (x : Nat) (hx0 : x ≠ 0) (hx : x < 18446744073709551616) (w : World) (hT : DoorAt w) :
    Calls Tryz.prog 78 #[.int .u64 x] w fun e w' => e = .returned (.int .i64 (Lib.ctz 64 x)) ∧ w' = w := by
  obtain ⟨hlow, hk⟩ := Lib.lowest_bit 64 x hx0 hx
  obtain ⟨hi, htab⟩ := Lib.deBruijn64_at _ hk
  have hcell := hT.2 _ hi
  rw [htab] at hcell
  exact tz_core x _ _ w (by simp; omega) (tz64_key x _ hx hx0 hlow) hi hk hcell

theorem u64_info : (Tryz.prog.info? 59).map (fun i => (i.zero, i.size, i.bytes)) = some (some (.int .u64 0), 1, 8) := by kernel_rfl
noncomputable def u64Row : TypeInfo := Classical.choose (info_parts u64_info)
theorem u64_row : Tryz.prog.info? 59 = some u64Row ∧ u64Row.zero = some (.int .u64 0) ∧ u64Row.size = 1 ∧ u64Row.bytes = 8 := Classical.choose_spec (info_parts u64_info)
/-- The address of a word of a set. -/
theorem run_ws_index (b v : Nat) (h : v < 7) (W : World) : (Instr.indexAt 61 (.pointer (some ⟨b, 0, none⟩)) (.int .i64 (v : Int))).run Tryz.prog W = .ok (.pointer (some ⟨b, v, none⟩)) W := by
  have e : Tryz.prog.arrayLen 61 = 7 := by kernel_rfl
  have e2 : Tryz.prog.elem 61 = 59 := by kernel_rfl
  have e3 : Tryz.prog.underlying 61 = some (.array 7 59) := by kernel_rfl
  rw [run_indexAt_array W 61 ⟨b, 0, none⟩ .i64 v (by rw [e, e2]; exact e3), e, e2, if_pos (by omega)]
  have ha : (⟨b, 0, none⟩ : Addr).add v = ⟨b, v, none⟩ := by unfold Addr.add; split <;> simp_all
  simp [sizeOf, typeInfo, u64_row.1, u64_row.2.2.1, ha]

theorem ws_arr : Tryz.prog.underlying 61 = some (.array 7 59) := by kernel_rfl
/-- A word of a set that is a value. -/
theorem run_ws_at (P : Nat → Bool) (W : World) : ∀ (k : Nat), k < 7 → (Instr.index 61 (.agg #[.int .u64 (wd P 0), .int .u64 (wd P 1), .int .u64 (wd P 2), .int .u64 (wd P 3), .int .u64 (wd P 4), .int .u64 (wd P 5), .int .u64 (wd P 6)]) (.int .i64 (k : Int))).run Tryz.prog W = .ok (.int .u64 (wd P k)) W
  | 0, _ => by simp [Instr.index, run_underlying ws_arr, asIntOf, go_sem, sizeOf, typeInfo, u64_row.1, u64_row.2.2.1, part]
  | 1, _ => by simp [Instr.index, run_underlying ws_arr, asIntOf, go_sem, sizeOf, typeInfo, u64_row.1, u64_row.2.2.1, part]
  | 2, _ => by simp [Instr.index, run_underlying ws_arr, asIntOf, go_sem, sizeOf, typeInfo, u64_row.1, u64_row.2.2.1, part]
  | 3, _ => by simp [Instr.index, run_underlying ws_arr, asIntOf, go_sem, sizeOf, typeInfo, u64_row.1, u64_row.2.2.1, part]
  | 4, _ => by simp [Instr.index, run_underlying ws_arr, asIntOf, go_sem, sizeOf, typeInfo, u64_row.1, u64_row.2.2.1, part]
  | 5, _ => by simp [Instr.index, run_underlying ws_arr, asIntOf, go_sem, sizeOf, typeInfo, u64_row.1, u64_row.2.2.1, part]
  | 6, _ => by simp [Instr.index, run_underlying ws_arr, asIntOf, go_sem, sizeOf, typeInfo, u64_row.1, u64_row.2.2.1, part]
  | n + 7, h => absurd h (by omega)
theorem seven_cells {w : World} {g : Nat} {t : TypeId} {a b c d e f h : Value} (k : Blk w g t [a, b, c, d, e, f, h]) : w.cell? ⟨g, 0, none⟩ = some a ∧ w.cell? ⟨g, 1, none⟩ = some b ∧ w.cell? ⟨g, 2, none⟩ = some c ∧
    w.cell? ⟨g, 3, none⟩ = some d ∧ w.cell? ⟨g, 4, none⟩ = some e ∧ w.cell? ⟨g, 5, none⟩ = some f ∧ w.cell? ⟨g, 6, none⟩ = some h :=
  ⟨k.cell 0, k.cell 1, k.cell 2, k.cell 3, k.cell 4, k.cell 5, k.cell 6⟩
theorem seven_frozen {w : World} {g : Nat} {t : TypeId} {cs : List Value} (h : Blk w g t cs) : w.frozen? ⟨g, 0, none⟩ = false ∧ w.frozen? ⟨g, 1, none⟩ = false ∧ w.frozen? ⟨g, 2, none⟩ = false ∧
    w.frozen? ⟨g, 3, none⟩ = false ∧ w.frozen? ⟨g, 4, none⟩ = false ∧ w.frozen? ⟨g, 5, none⟩ = false ∧ w.frozen? ⟨g, 6, none⟩ = false :=
  ⟨h.frozen 0, h.frozen 1, h.frozen 2, h.frozen 3, h.frozen 4, h.frozen 5, h.frozen 6⟩
theorem ws_cells {w : World} {g : Nat} {t : TypeId} {P : Nat → Bool} (h : Blk w g t (wsC P)) : w.cell? ⟨g, 0, none⟩ = some (.int .u64 (wd P 0)) ∧ w.cell? ⟨g, 1, none⟩ = some (.int .u64 (wd P 1)) ∧ w.cell? ⟨g, 2, none⟩ = some (.int .u64 (wd P 2)) ∧
    w.cell? ⟨g, 3, none⟩ = some (.int .u64 (wd P 3)) ∧ w.cell? ⟨g, 4, none⟩ = some (.int .u64 (wd P 4)) ∧ w.cell? ⟨g, 5, none⟩ = some (.int .u64 (wd P 5)) ∧ w.cell? ⟨g, 6, none⟩ = some (.int .u64 (wd P 6)) := seven_cells h

set_option maxRecDepth 100000 in
set_option maxHeartbeats 2000000 in
theorem with_any (P : Nat → Bool) (n : Nat) (hn : n < 448) (w : World) :
    Calls Tryz.prog 70 #[wsV P, .int .i64 n] w (GivesV w (wsV (addP P n))) := by
  have hq : (n : Int).tdiv 64 = ((n / 64 : Nat) : Int) := rfl
  have hr : (n : Int).tmod 64 = ((n % 64 : Nat) : Int) := rfl
  have hv : n / 64 < 7 := by omega
  have hm : n % 64 < 64 := Nat.mod_lt _ (by omega)
  have HIX := fun W => run_ws_index w.heap.size (n / 64) hv W
  have Z := Lib.hid ((Blk.new w (wsC P).toArray 61).alloc (.cells #[.int .u64 0, .int .u64 0, .int .u64 0, .int .u64 0, .int .u64 0, .int .u64 0, .int .u64 0] 61))
  unfold wsV
  go_enter Tryz.func70, Tryz.ntmps70
  go_wp2
  obtain ⟨W1, hW1⟩ : ∃ W1, W1 = ((w.alloc (.cells #[.int .u64 (wd P 0), .int .u64 (wd P 1), .int .u64 (wd P 2), .int .u64 (wd P 3), .int .u64 (wd P 4), .int .u64 (wd P 5), .int .u64 (wd P 6)] 61)).alloc (.cells #[.int .u64 0, .int .u64 0, .int .u64 0, .int .u64 0, .int .u64 0, .int .u64 0, .int .u64 0] 61)) := ⟨_, rfl⟩
  rw [← hW1]
  have Z1 : Blk W1 w.heap.size 61 (wsC P) := by rw [hW1]; exact Z.out
  have Y1 : Blk W1 (w.heap.size + 1) 61 [.int .u64 0, .int .u64 0, .int .u64 0, .int .u64 0, .int .u64 0, .int .u64 0, .int .u64 0] := by
    rw [hW1]
    have := Blk.new (w.alloc (.cells (wsC P).toArray 61)) #[.int .u64 0, .int .u64 0, .int .u64 0, .int .u64 0, .int .u64 0, .int .u64 0, .int .u64 0] 61
    rw [World.size_alloc] at this
    exact this
  have B1 : Below w.heap.size w W1 := by rw [hW1]; exact (below_alloc _ _).trans ((below_alloc _ _).mono (by simp))
  have hc : W1.cell? ⟨w.heap.size, n / 64, none⟩ = some (.int .u64 (wd P (n / 64))) := by rw [Z1.cell]; exact wsC_at P hv
  have hf := Z1.frozen (n / 64)
  have hp : (2 : Int) ^ (n % 64) = ((2 ^ (n % 64) : Nat) : Int) := by simp
  have hp2 : 2 ^ (n % 64) < 18446744073709551616 := Nat.pow_lt_pow_right (a := 2) (by omega) hm
  have hsh : IntKind.u64.wrap ((2 : Int) ^ (n % 64)) = (2 : Int) ^ (n % 64) := by
    rw [hp]
    generalize 2 ^ (n % 64) = X at hp2
    rw [IntKind.wrap_u64]; omega
  have hor : bits BinOp.or IntKind.u64 ((wd P (n / 64) : Nat) : Int) ((2 : Int) ^ (n % 64)) = ((wd (addP P n) (n / 64) : Nat) : Int) := by
    rw [hp, bits_or_u64_nat _ _ (wd_lt _ _) hp2, wd_add]
  have WA := Lib.hid (wsC_add P hn)
  have Z1 := Lib.hid Z1
  have Y1 := Lib.hid Y1
  have B1 := Lib.hid B1
  have HP := Lib.hid hp2
  clear hW1 hp hp2
  go_region
  obtain ⟨W2, hW2⟩ : ∃ W2, W2 = (W1.setCell ⟨w.heap.size, n / 64, none⟩ (.int .u64 (wd (addP P n) (n / 64)))).drew := ⟨_, rfl⟩
  rw [← hW2]
  have Z2 : Blk W2 w.heap.size 61 (wsC (addP P n)) := by rw [hW2, ← WA.out]; exact Z1.out.set _ _
  have Y2 : Blk W2 (w.heap.size + 1) 61 [.int .u64 0, .int .u64 0, .int .u64 0, .int .u64 0, .int .u64 0, .int .u64 0, .int .u64 0] := by
    rw [hW2]
    exact (setCell_heap W1 ⟨w.heap.size, n / 64, none⟩ _ (by show w.heap.size + 1 ≠ w.heap.size; omega)).trans Y1.out
  have B2 : Below w.heap.size w W2 := by
    rw [hW2]
    have h := B1.out.setCell (p := ⟨w.heap.size, n / 64, none⟩) (Nat.le_refl _) (.int .u64 (wd (addP P n) (n / 64)))
    exact ⟨h.os, h.tape, h.output, h.size, h.block⟩
  clear hW2
  obtain ⟨q0, q1, q2, q3, q4, q5, q6⟩ := ws_cells Z2
  obtain ⟨y0, y1, y2, y3, y4, y5, y6⟩ := seven_cells Y2
  obtain ⟨f0, f1, f2, f3, f4, f5, f6⟩ := seven_frozen Y2
  have B2 := Lib.hid B2
  clear Z2 Y2
  generalize addP P n = Q at *
  go_wp2_with fail
  refine bodyPost_ret (v := wsV Q) (by simp [results, Tryz.results70, go_sem, y0, y1, y2, y3, y4, y5, y6, wsV]) rfl ⟨rfl, ?_⟩
  exact ((((((B2.out.setCell (by simp) _).setCell (by simp) _).setCell (by simp) _).setCell (by simp) _).setCell (by simp) _).setCell (by simp) _).setCell (by simp) _
end Go.Proofs.YtfgjogmgcamfdaaGreatDoor
namespace Go.Proofs.YtfgjogmgcamfdaaGreatDoor
open Go.RowKit

set_option maxRecDepth 100000 in
set_option maxHeartbeats 2000000 in
theorem either_any (P Q : Nat → Bool) (w : World) :
    Calls Tryz.prog 118 #[wsV P, wsV Q] w (GivesV w (wsV fun x => P x || Q x)) := by
  obtain ⟨R, hR⟩ : ∃ R : Nat → Bool, R = fun x => P x || Q x := ⟨_, rfl⟩
  rw [← hR]
  have HB := Lib.hid (fun k => show bits BinOp.or IntKind.u64 ((wd P k : Nat) : Int) ((wd Q k : Nat) : Int) = ((wd R k : Nat) : Int) by
    rw [hR, bits_or_u64_nat _ _ (wd_lt _ _) (wd_lt _ _), wd_or])
  clear hR
  obtain ⟨W0, hW0⟩ : ∃ W0, W0 = (((w.alloc (.cells #[.int .u64 (wd P 0), .int .u64 (wd P 1), .int .u64 (wd P 2), .int .u64 (wd P 3), .int .u64 (wd P 4), .int .u64 (wd P 5), .int .u64 (wd P 6)] 61)).alloc
    (.cells #[.int .u64 (wd Q 0), .int .u64 (wd Q 1), .int .u64 (wd Q 2), .int .u64 (wd Q 3), .int .u64 (wd Q 4), .int .u64 (wd Q 5), .int .u64 (wd Q 6)] 61)).alloc
    (.cells #[.int .u64 0, .int .u64 0, .int .u64 0, .int .u64 0, .int .u64 0, .int .u64 0, .int .u64 0] 61)) := ⟨_, rfl⟩
  have B0 : Below w.heap.size w W0 := by rw [hW0]; exact (below_alloc _ _).trans (((below_alloc _ _).trans ((below_alloc _ _).mono (by simp))).mono (by simp))
  have Z0 : Blk W0 w.heap.size 61 (mixC P R 0) := by rw [hW0]; exact ((Blk.new w (wsC P).toArray 61).alloc _).alloc _
  have Y0 : Blk W0 (w.heap.size + 2) 61 [.int .u64 0, .int .u64 0, .int .u64 0, .int .u64 0, .int .u64 0, .int .u64 0, .int .u64 0] := by
    rw [hW0]
    have := Blk.new ((w.alloc (.cells (wsC P).toArray 61)).alloc (.cells (wsC Q).toArray 61)) #[.int .u64 0, .int .u64 0, .int .u64 0, .int .u64 0, .int .u64 0, .int .u64 0, .int .u64 0] 61
    rw [World.size_alloc, World.size_alloc] at this
    exact this
  have B0 := Lib.hid B0
  have Z0 := Lib.hid Z0
  have Y0 := Lib.hid Y0
  unfold wsV
  go_enter Tryz.func118, Tryz.ntmps118
  go_wp2
  rw [← hW0]
  clear hW0
  go_loopg [5, 6, 8] 7 (fun m i5 i6 i wr => ∃ k : Nat, k + m = 7 ∧ i = .int .i64 k ∧ Hid (Blk wr w.heap.size 61 (mixC P R k)) ∧ Hid (Blk wr (w.heap.size + 2) 61 [.int .u64 0, .int .u64 0, .int .u64 0, .int .u64 0, .int .u64 0, .int .u64 0, .int .u64 0]) ∧ Hid (Below w.heap.size w wr))
  case atStart => exact ⟨0, by omega, rfl, Z0, Y0, B0⟩
  case round =>
    clear Z0 Y0 B0
    obtain ⟨k, hk, rfl, hz, hy, hb⟩ := hrel
    by_cases hlt : k < 7
    · have hc : wr.cell? ⟨w.heap.size, k, none⟩ = some (.int .u64 (wd P k)) := by rw [hz.out.cell, mixC_at P R k k hlt, if_neg (by omega)]
      have hf := hz.out.frozen k
      have HIX := fun W => run_ws_index w.heap.size k hlt W
      have hor := HB.out k
      have hlt' : (k : Int) < 7 := by omega
      have HAT := fun W => run_ws_at Q W k hlt
      go_wp2
      go_roundg (7 - (k + 1))
      case measure => omega
      case rel =>
        refine ⟨k + 1, by omega, by go_num, Lib.hid (hz.out.set k _), Lib.hid ?_, Lib.hid (hb.out.setCell (Nat.le_refl _) _)⟩
        exact (setCell_heap wr ⟨w.heap.size, k, none⟩ _ (by show w.heap.size + 2 ≠ w.heap.size; omega)).trans hy.out
    · obtain rfl : k = 7 := by omega
      have Z := hz.out
      rw [mixC_all] at Z
      obtain ⟨q0, q1, q2, q3, q4, q5, q6⟩ := ws_cells Z
      obtain ⟨y0, y1, y2, y3, y4, y5, y6⟩ := seven_cells hy.out
      obtain ⟨f0, f1, f2, f3, f4, f5, f6⟩ := seven_frozen hy.out
      clear Z
      go_wp2_with fail
      refine bodyPost_ret (v := wsV R) (by simp [results, Tryz.results118, go_sem, y0, y1, y2, y3, y4, y5, y6, wsV]) rfl ⟨rfl, ?_⟩
      exact ((((((hb.out.setCell (by show w.heap.size ≤ w.heap.size + 1 + 1; omega) _).setCell (by show w.heap.size ≤ w.heap.size + 1 + 1; omega) _).setCell (by show w.heap.size ≤ w.heap.size + 1 + 1; omega) _).setCell (by show w.heap.size ≤ w.heap.size + 1 + 1; omega) _).setCell (by show w.heap.size ≤ w.heap.size + 1 + 1; omega) _).setCell (by show w.heap.size ≤ w.heap.size + 1 + 1; omega) _).setCell (by show w.heap.size ≤ w.heap.size + 1 + 1; omega) _

set_option maxRecDepth 100000 in
set_option maxHeartbeats 2000000 in
theorem without_any (P Q : Nat → Bool) (w : World) :
    Calls Tryz.prog 50 #[wsV P, wsV Q] w (GivesV w (wsV fun x => P x && !Q x)) := by
  obtain ⟨R, hR⟩ : ∃ R : Nat → Bool, R = fun x => P x && !Q x := ⟨_, rfl⟩
  rw [← hR]
  have HB := Lib.hid (fun k => show bits BinOp.andNot IntKind.u64 ((wd P k : Nat) : Int) ((wd Q k : Nat) : Int) = ((wd R k : Nat) : Int) by
    rw [hR, u64_andNot_nat _ _ (wd_lt _ _) (wd_lt _ _), wd_not])
  clear hR
  obtain ⟨W0, hW0⟩ : ∃ W0, W0 = (((w.alloc (.cells #[.int .u64 (wd P 0), .int .u64 (wd P 1), .int .u64 (wd P 2), .int .u64 (wd P 3), .int .u64 (wd P 4), .int .u64 (wd P 5), .int .u64 (wd P 6)] 61)).alloc
    (.cells #[.int .u64 (wd Q 0), .int .u64 (wd Q 1), .int .u64 (wd Q 2), .int .u64 (wd Q 3), .int .u64 (wd Q 4), .int .u64 (wd Q 5), .int .u64 (wd Q 6)] 61)).alloc
    (.cells #[.int .u64 0, .int .u64 0, .int .u64 0, .int .u64 0, .int .u64 0, .int .u64 0, .int .u64 0] 61)) := ⟨_, rfl⟩
  have B0 : Below w.heap.size w W0 := by rw [hW0]; exact (below_alloc _ _).trans (((below_alloc _ _).trans ((below_alloc _ _).mono (by simp))).mono (by simp))
  have Z0 : Blk W0 w.heap.size 61 (mixC P R 0) := by rw [hW0]; exact ((Blk.new w (wsC P).toArray 61).alloc _).alloc _
  have Y0 : Blk W0 (w.heap.size + 2) 61 [.int .u64 0, .int .u64 0, .int .u64 0, .int .u64 0, .int .u64 0, .int .u64 0, .int .u64 0] := by
    rw [hW0]
    have := Blk.new ((w.alloc (.cells (wsC P).toArray 61)).alloc (.cells (wsC Q).toArray 61)) #[.int .u64 0, .int .u64 0, .int .u64 0, .int .u64 0, .int .u64 0, .int .u64 0, .int .u64 0] 61
    rw [World.size_alloc, World.size_alloc] at this
    exact this
  have B0 := Lib.hid B0
  have Z0 := Lib.hid Z0
  have Y0 := Lib.hid Y0
  unfold wsV
  go_enter Tryz.func50, Tryz.ntmps50
  go_wp2
  rw [← hW0]
  clear hW0
  go_loopg [5, 6, 8] 7 (fun m i5 i6 i wr => ∃ k : Nat, k + m = 7 ∧ i = .int .i64 k ∧ Hid (Blk wr w.heap.size 61 (mixC P R k)) ∧ Hid (Blk wr (w.heap.size + 2) 61 [.int .u64 0, .int .u64 0, .int .u64 0, .int .u64 0, .int .u64 0, .int .u64 0, .int .u64 0]) ∧ Hid (Below w.heap.size w wr))
  case atStart => exact ⟨0, by omega, rfl, Z0, Y0, B0⟩
  case round =>
    clear Z0 Y0 B0
    obtain ⟨k, hk, rfl, hz, hy, hb⟩ := hrel
    by_cases hlt : k < 7
    · have hc : wr.cell? ⟨w.heap.size, k, none⟩ = some (.int .u64 (wd P k)) := by rw [hz.out.cell, mixC_at P R k k hlt, if_neg (by omega)]
      have hf := hz.out.frozen k
      have HIX := fun W => run_ws_index w.heap.size k hlt W
      have hor := HB.out k
      have hlt' : (k : Int) < 7 := by omega
      have HAT := fun W => run_ws_at Q W k hlt
      go_wp2
      go_roundg (7 - (k + 1))
      case measure => omega
      case rel =>
        refine ⟨k + 1, by omega, by go_num, Lib.hid (hz.out.set k _), Lib.hid ?_, Lib.hid (hb.out.setCell (Nat.le_refl _) _)⟩
        exact (setCell_heap wr ⟨w.heap.size, k, none⟩ _ (by show w.heap.size + 2 ≠ w.heap.size; omega)).trans hy.out
    · obtain rfl : k = 7 := by omega
      have Z := hz.out
      rw [mixC_all] at Z
      obtain ⟨q0, q1, q2, q3, q4, q5, q6⟩ := ws_cells Z
      obtain ⟨y0, y1, y2, y3, y4, y5, y6⟩ := seven_cells hy.out
      obtain ⟨f0, f1, f2, f3, f4, f5, f6⟩ := seven_frozen hy.out
      clear Z
      go_wp2_with fail
      refine bodyPost_ret (v := wsV R) (by simp [results, Tryz.results50, go_sem, y0, y1, y2, y3, y4, y5, y6, wsV]) rfl ⟨rfl, ?_⟩
      exact ((((((hb.out.setCell (by show w.heap.size ≤ w.heap.size + 1 + 1; omega) _).setCell (by show w.heap.size ≤ w.heap.size + 1 + 1; omega) _).setCell (by show w.heap.size ≤ w.heap.size + 1 + 1; omega) _).setCell (by show w.heap.size ≤ w.heap.size + 1 + 1; omega) _).setCell (by show w.heap.size ≤ w.heap.size + 1 + 1; omega) _).setCell (by show w.heap.size ≤ w.heap.size + 1 + 1; omega) _).setCell (by show w.heap.size ≤ w.heap.size + 1 + 1; omega) _
end Go.Proofs.YtfgjogmgcamfdaaGreatDoor
namespace Go.Proofs.YtfgjogmgcamfdaaGreatDoor
open Go.RowKit

theorem seven_set {w : World} {g : Nat} {t : TypeId} {a b c d e f h a' b' c' d' e' f' h' : Value} (k : Blk w g t [a, b, c, d, e, f, h]) :
    Blk (((((((w.setCell ⟨g, 0, none⟩ a').setCell ⟨g, 1, none⟩ b').setCell ⟨g, 2, none⟩ c').setCell ⟨g, 3, none⟩ d').setCell ⟨g, 4, none⟩ e').setCell ⟨g, 5, none⟩ f').setCell ⟨g, 6, none⟩ h') g t [a', b', c', d', e', f', h'] :=
  ((((((k.set 0 a').set 1 b').set 2 c').set 3 d').set 4 e').set 5 f').set 6 h'
theorem seven_far {w : World} {g o : Nat} {a' b' c' d' e' f' h' : Value} (k : o ≠ g) :
    (((((((w.setCell ⟨g, 0, none⟩ a').setCell ⟨g, 1, none⟩ b').setCell ⟨g, 2, none⟩ c').setCell ⟨g, 3, none⟩ d').setCell ⟨g, 4, none⟩ e').setCell ⟨g, 5, none⟩ f').setCell ⟨g, 6, none⟩ h').heap[o]? = w.heap[o]? := by
  rw [setCell_heap _ _ _ k, setCell_heap _ _ _ k, setCell_heap _ _ _ k, setCell_heap _ _ _ k, setCell_heap _ _ _ k, setCell_heap _ _ _ k, setCell_heap _ _ _ k]

set_option maxRecDepth 100000 in
set_option maxHeartbeats 2000000 in
theorem setOf_any (l : List Int) (A : Option Addr) (n c : Nat) (w : World) (h : Mem.rd w w.heap.size [.slice A n c] l) (hr : ∀ k, k < l.length → 0 ≤ ix l k ∧ ix l k < 448) :
    Calls Tryz.prog 56 #[.slice A n c] w (GivesV w (wsV (memP l))) := by
  have hm := rd_max h
  unfold maxLen at hm
  have hl := rd_len h
  have HR := Lib.hid (fun k (hk : k < n) => hr k (by omega))
  have HN := Lib.hid (fun k (hk : k < n) (x : Nat) (hx : ix l k = x) => show addP (memP (l.take k)) x = memP (l.take (k + 1)) by rw [take_el (by omega), ← mem_snoc, ← hx]; rfl)
  have E : Hid (memP (l.take n) = memP l) := Lib.hid (by rw [List.take_of_length_le (by omega)])
  generalize memP l = F at E ⊢
  have h' := (rd_ints.1 h).2
  clear h hl hr
  obtain ⟨W0, hW0⟩ : ∃ W0, W0 = ((w.alloc (.cells #[.int .u64 0, .int .u64 0, .int .u64 0, .int .u64 0, .int .u64 0, .int .u64 0, .int .u64 0] 61)).alloc
    (.cells #[.int .u64 0, .int .u64 0, .int .u64 0, .int .u64 0, .int .u64 0, .int .u64 0, .int .u64 0] 61)) := ⟨_, rfl⟩
  have B0 : Below w.heap.size w W0 := by rw [hW0]; exact (below_alloc _ _).trans ((below_alloc _ _).mono (by simp))
  have Y0 : Blk W0 w.heap.size 61 [.int .u64 0, .int .u64 0, .int .u64 0, .int .u64 0, .int .u64 0, .int .u64 0, .int .u64 0] := by rw [hW0]; exact (Blk.new w _ _).alloc _
  have Z0 : Blk W0 (w.heap.size + 1) 61 (wsC (memP (l.take 0))) := by
    have e : wsC (memP (l.take 0)) = [.int .u64 0, .int .u64 0, .int .u64 0, .int .u64 0, .int .u64 0, .int .u64 0, .int .u64 0] := by
      show wsC (memP []) = _
      rw [mem_nil]; unfold wsC
      rw [wd_none, wd_none, wd_none, wd_none, wd_none, wd_none, wd_none]; rfl
    rw [hW0, e]
    have := Blk.new (w.alloc (.cells #[.int .u64 0, .int .u64 0, .int .u64 0, .int .u64 0, .int .u64 0, .int .u64 0, .int .u64 0] 61)) #[.int .u64 0, .int .u64 0, .int .u64 0, .int .u64 0, .int .u64 0, .int .u64 0, .int .u64 0] 61
    rw [World.size_alloc] at this
    exact this
  have B0 := Lib.hid B0
  have Z0 := Lib.hid Z0
  have Y0 := Lib.hid Y0
  go_enter Tryz.func56, Tryz.ntmps56
  go_wp2
  rw [← hW0]
  clear hW0
  go_loopg [5, 8] n (fun m i5 i wr => ∃ k : Nat, k + m = n ∧ i = .int .i64 k ∧ Hid (Blk wr (w.heap.size + 1) 61 (wsC (memP (l.take k)))) ∧ Hid (Blk wr w.heap.size 61 [.int .u64 0, .int .u64 0, .int .u64 0, .int .u64 0, .int .u64 0, .int .u64 0, .int .u64 0]) ∧ Hid (Below w.heap.size w wr))
  case atStart => exact ⟨0, by omega, rfl, Z0, Y0, B0⟩
  case round =>
    clear Z0 Y0 B0
    obtain ⟨k, hk, rfl, hz, hy, hb⟩ := hrel
    by_cases hlt : k < n
    · obtain ⟨ad, rfl, hbl, hc⟩ := (h'.below hb.out).int hlt
      obtain ⟨x, hx⟩ : ∃ x : Nat, ix l k = x := ⟨(ix l k).toNat, by have := HR.out k hlt; omega⟩
      have hx4 : x < 448 := by have := HR.out k hlt; omega
      rw [hx] at hc
      have NX := Lib.hid (HN.out k hlt x hx)
      have WA := Lib.hid (fun W => with_any (memP (l.take k)) x hx4 W)
      generalize memP (l.take k) = Q at *
      obtain ⟨q0, q1, q2, q3, q4, q5, q6⟩ := ws_cells hz.out
      have WA := Lib.hid WA.out
      unfold wsV at WA
      clear hx hx4
      go_wp2_with fail
      refine (WA.out wr).mono ?_
      rintro e w4 ⟨rfl, b4⟩
      have Z4 := Lib.hid (hz.out.below b4 hz.out.lt)
      have Y4 := Lib.hid (hy.out.below b4 hy.out.lt)
      have B4 := Lib.hid (hb.out.trans (b4.mono hb.out.size))
      obtain ⟨c0, c1, c2, c3, c4, c5, c6⟩ := ws_cells Z4.out
      obtain ⟨f0, f1, f2, f3, f4, f5, f6⟩ := seven_frozen Z4.out
      go_wp2
      go_roundg (n - (k + 1))
      case measure => omega
      case rel =>
        refine ⟨k + 1, by omega, by go_num, Lib.hid ?_, Lib.hid ((seven_far (by omega)).trans Y4.out), Lib.hid ?_⟩
        · rw [← NX.out]
          exact seven_set Z4.out
        · exact ((((((B4.out.setCell (by show w.heap.size ≤ w.heap.size + 1; omega) _).setCell (by show w.heap.size ≤ w.heap.size + 1; omega) _).setCell (by show w.heap.size ≤ w.heap.size + 1; omega) _).setCell (by show w.heap.size ≤ w.heap.size + 1; omega) _).setCell (by show w.heap.size ≤ w.heap.size + 1; omega) _).setCell (by show w.heap.size ≤ w.heap.size + 1; omega) _).setCell (by show w.heap.size ≤ w.heap.size + 1; omega) _
    · obtain rfl : k = n := by omega
      have Z := hz.out
      rw [E.out] at Z
      obtain ⟨q0, q1, q2, q3, q4, q5, q6⟩ := ws_cells Z
      obtain ⟨y0, y1, y2, y3, y4, y5, y6⟩ := seven_cells hy.out
      obtain ⟨f0, f1, f2, f3, f4, f5, f6⟩ := seven_frozen hy.out
      clear Z
      go_wp2_with fail
      refine bodyPost_ret (v := wsV F) (by simp [results, Tryz.results56, go_sem, y0, y1, y2, y3, y4, y5, y6, wsV]) rfl ⟨rfl, ?_⟩
      exact ((((((hb.out.setCell (Nat.le_refl _) _).setCell (Nat.le_refl _) _).setCell (Nat.le_refl _) _).setCell (Nat.le_refl _) _).setCell (Nat.le_refl _) _).setCell (Nat.le_refl _) _).setCell (Nat.le_refl _) _

set_option maxRecDepth 100000 in
set_option maxHeartbeats 2000000 in
theorem setList_any (P : Nat → Bool) (w : World) (hT : DoorAt w) :
    Calls Tryz.prog 39 #[wsV P] w (GivesInts w (pick P 448)) := by
  have HT := Lib.hid hT
  clear hT
  unfold wsV
  go_enter Tryz.func39, Tryz.ntmps39
  go_wp2
  go_loopg [3, 4, 5, 7] 7 (fun m v i4 i5 i wr => ∃ k : Nat, k + m = 7 ∧ i = .int .i64 k ∧ Hid (wr.ownsRow w.heap.size 3 1 v (pick P (64 * k)).length (ints (pick P (64 * k)))) ∧ Hid (Below w.heap.size w wr))
  case atStart => exact ⟨0, by omega, rfl, Lib.hid (World.ownsRow_nil _ _ _ _), Lib.hid (below_alloc _ _)⟩
  case round =>
    obtain ⟨k, hk, rfl, ho, hb⟩ := hrel
    by_cases hlt : k < 7
    · have HAT := fun W => run_ws_at P W k hlt
      have hlt' : (k : Int) < 7 := by omega
      obtain ⟨wo, rfl⟩ : ∃ wo : World, wo = wr := ⟨_, rfl⟩
      have e0 : wd P k = wd (fromP P (64 * k)) k := wd_from.symm
      rw [e0] at HAT
      clear e0
      go_wp2
      go_loopg [3, 5] 64 (fun m v x wr => ∃ t : Nat, t + m = 64 * k + 64 ∧ 64 * k ≤ t ∧ x = .int .u64 (wd (fromP P t) k) ∧ Hid (wr.ownsRow w.heap.size 3 1 v (pick P t).length (ints (pick P t))) ∧ Hid (Below w.heap.size w wr))
      case atStart => exact ⟨64 * k, by omega, Nat.le_refl _, rfl, ho, hb⟩
      case round =>
        clear ho hb
        obtain ⟨t, ht, h1, rfl, ho, hb⟩ := hrel
        by_cases hx0 : wd (fromP P t) k = 0
        · have HE := Lib.hid (wd_end h1 (by omega) hx0)
          rw [hx0]
          clear hx0
          have O := ho
          go_wp2
          go_roundg (7 - (k + 1))
          case measure => omega
          case rel =>
            refine ⟨k + 1, by omega, by go_num, Lib.hid ?_, hb⟩
            rw [show 64 * (k + 1) = 64 * k + 64 by omega, HE.out]
            exact O.out
        · obtain ⟨m, hm, e1, e2, e3, e4⟩ := wd_round h1 hx0
          have hxl := wd_lt (fromP P t) k
          have TZ := Lib.hid (fun W (hT : DoorAt W) => tz_any (wd (fromP P t) k) hx0 hxl W hT)
          rw [e1] at TZ
          generalize hX : wd (fromP P t) k = X at *
          have hne : ((X : Int) != 0) = true := by simp; omega
          have hsub : IntKind.u64.wrap ((X : Int) - 1) = ((X - 1 : Nat) : Int) := by rw [IntKind.wrap_u64]; omega
          have hand' : bits BinOp.and IntKind.u64 (X : Int) ((X - 1 : Nat) : Int) = ((wd (fromP P (64 * k + m + 1)) k : Nat) : Int) := by
            rw [bits_and_u64_nat _ _ hxl (by omega), e4]
          have hw1 : IntKind.i64.wrap ((k : Int) * 64) = (k : Int) * 64 := IntWalk.i64_in _ (by omega)
          have hw2 : IntKind.i64.wrap ((k : Int) * 64 + (m : Int)) = ((64 * k + m : Nat) : Int) := by
            rw [show (k : Int) * 64 + (m : Int) = ((64 * k + m : Nat) : Int) by omega]; exact IntWalk.i64_in _ (by omega)
          have E3 := Lib.hid e3
          have hpl : (pick P t).length ≤ 448 := Nat.le_trans (pick_len P t) (by omega)
          have HPL := Lib.hid hpl
          have DT := Lib.hid (HT.out.on hb.out)
          clear hX hx0 hxl e1 e3 e4 hpl
          go_wp2_with fail
          refine (TZ.out _ DT.out).mono ?_
          rintro e w4 ⟨rfl, rfl⟩
          go_wp2_with (first
            | (at_builtin; refine app_int_at rfl _ _ rfl w.heap.size _ (pick P t).length _ _ _ rfl (ho.out.alloc _) rfl (World.cell?_alloc_at _ _ _ _ (by simp)) (by have := HPL.out; omega) (by have := hb.out.size; simp; omega) ?_; intro v' w6 ho6 hb6))
          go_roundg (64 * k + 64 - (64 * k + m + 1))
          case measure => omega
          case rel =>
            have hz : (64 * (k : Int) + (m : Int)) = ((64 * k + m : Nat) : Int) := by omega
            rw [hz] at ho6
            refine ⟨64 * k + m + 1, by omega, by omega, rfl, Lib.hid ?_, Lib.hid ((hb.out.alloc hb.out.size _).trans hb6)⟩
            rw [E3.out, List.length_append]
            exact ho6
    · obtain rfl : k = 7 := by omega
      have O := ho.out
      go_wp2
      go_ret
      exact ⟨_, rfl, O, hb.out⟩
end Go.Proofs.YtfgjogmgcamfdaaGreatDoor
