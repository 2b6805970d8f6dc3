/- Sets of numbers as bits of words: the program's words. -/
import Derived.Test.YtmlhnnkdecabpaaDoorWord
import Derived.Test.YtmlhnnkdecabpaaDoorEvalB
import Derived.Test.YtmlhnnkdecabpaaDoorIntApp
import Derived.Shelf.Spec.TrailingZeros
import Derived.RegionTactic
import Derived.BigRegion
namespace Go.Proofs.YtmlhnnkdecabpaaDoor
open Go.RowKit

/-- The library's table lies where the program's start laid it. -/
def DoorAt (w : World) : Prop := 0 < w.heap.size ∧ TabAt 0 Lib.deBruijn64tab w
theorem DoorAt.on {w w' : World} (h : DoorAt w) (hb : Below w.heap.size w w') : DoorAt w' :=
  ⟨Nat.lt_of_lt_of_le h.1 hb.size, fun j hj => (hb.cell (p := ⟨0, j, none⟩) h.1).trans (h.2 j hj)⟩
theorem DoorAt.on_alloc {w : World} (h : DoorAt w) (o : Obj) : DoorAt (w.alloc o) := h.on (below_alloc w o)
theorem DoorAt.drew {w : World} (h : DoorAt w) : DoorAt w.drew := h

set_option maxHeartbeats 1000000 in
theorem tz_core (x k idx : Nat) (w : World) (hx0 : ((x : Int) == 0) = false)
    (key : IntKind.u64.wrap (bits BinOp.and IntKind.u64 (x : Int) (IntKind.u64.wrap (-(x : Int))) * 285870213051353865) / 288230376151711744 = (idx : Int))
    (hi : idx < 64) (hk : k < 64) (hcell : w.cell? ⟨0, idx, none⟩ = some (.int .u8 k)) :
    Calls Tryd.prog 84 #[.int .u64 x] w fun e w' => e = .returned (.int .i64 k) ∧ w' = w := by
  go_enter Tryd.func84, Tryd.ntmps84
  go_wp2_with (simp only [key])
  go_ret
  exact ⟨rfl, rfl⟩

theorem tz_any (x : Nat) (hx0 : x ≠ 0) (hx : x < 18446744073709551616) (w : World) (hT : DoorAt w) :
    Calls Tryd.prog 84 #[.int .u64 x] w fun e w' => e = .returned (.int .i64 (Lib.ctz 64 x)) ∧ w' = w := by
  obtain ⟨hlow, hk⟩ := Lib.lowest_bit 64 x hx0 hx
  obtain ⟨hi, htab⟩ := Lib.deBruijn64_at _ hk
  have hcell := hT.2 _ hi
  rw [htab] at hcell
  exact tz_core x _ _ w (by simp; omega) (tz64_key x _ hx hx0 hlow) hi hk hcell

theorem u64_info : (Tryd.prog.info? 62).map (fun i => (i.zero, i.size, i.bytes)) = some (some (.int .u64 0), 1, 8) := by kernel_rfl
noncomputable def u64Row : TypeInfo := Classical.choose (info_parts u64_info)
theorem u64_row : Tryd.prog.info? 62 = some u64Row ∧ u64Row.zero = some (.int .u64 0) ∧ u64Row.size = 1 ∧ u64Row.bytes = 8 := Classical.choose_spec (info_parts u64_info)
/-- The address of a word of a set. -/
theorem run_ws_index (b v : Nat) (h : v < 7) (W : World) : (Instr.indexAt 64 (.pointer (some ⟨b, 0, none⟩)) (.int .i64 (v : Int))).run Tryd.prog W = .ok (.pointer (some ⟨b, v, none⟩)) W := by
  have e : Tryd.prog.arrayLen 64 = 7 := by kernel_rfl
  have e2 : Tryd.prog.elem 64 = 62 := by kernel_rfl
  have e3 : Tryd.prog.underlying 64 = some (.array 7 62) := by kernel_rfl
  rw [run_indexAt_array W 64 ⟨b, 0, none⟩ .i64 v (by rw [e, e2]; exact e3), e, e2, if_pos (by omega)]
  have ha : (⟨b, 0, none⟩ : Addr).add v = ⟨b, v, none⟩ := by unfold Addr.add; split <;> simp_all
  simp [sizeOf, typeInfo, u64_row.1, u64_row.2.2.1, ha]

theorem ws_arr : Tryd.prog.underlying 64 = some (.array 7 62) := by kernel_rfl
/-- A word of a set that is a value. -/
theorem run_ws_at (P : Nat → Bool) (W : World) : ∀ (k : Nat), k < 7 → (Instr.index 64 (.agg #[.int .u64 (wd P 0), .int .u64 (wd P 1), .int .u64 (wd P 2), .int .u64 (wd P 3), .int .u64 (wd P 4), .int .u64 (wd P 5), .int .u64 (wd P 6)]) (.int .i64 (k : Int))).run Tryd.prog W = .ok (.int .u64 (wd P k)) W
  | 0, _ => by simp [Instr.index, run_underlying ws_arr, asIntOf, go_sem, sizeOf, typeInfo, u64_row.1, u64_row.2.2.1, part]
  | 1, _ => by simp [Instr.index, run_underlying ws_arr, asIntOf, go_sem, sizeOf, typeInfo, u64_row.1, u64_row.2.2.1, part]
  | 2, _ => by simp [Instr.index, run_underlying ws_arr, asIntOf, go_sem, sizeOf, typeInfo, u64_row.1, u64_row.2.2.1, part]
  | 3, _ => by simp [Instr.index, run_underlying ws_arr, asIntOf, go_sem, sizeOf, typeInfo, u64_row.1, u64_row.2.2.1, part]
  | 4, _ => by simp [Instr.index, run_underlying ws_arr, asIntOf, go_sem, sizeOf, typeInfo, u64_row.1, u64_row.2.2.1, part]
  | 5, _ => by simp [Instr.index, run_underlying ws_arr, asIntOf, go_sem, sizeOf, typeInfo, u64_row.1, u64_row.2.2.1, part]
  | 6, _ => by simp [Instr.index, run_underlying ws_arr, asIntOf, go_sem, sizeOf, typeInfo, u64_row.1, u64_row.2.2.1, part]
  | n + 7, h => absurd h (by omega)
theorem seven_cells {w : World} {g : Nat} {t : TypeId} {a b c d e f h : Value} (k : Blk w g t [a, b, c, d, e, f, h]) : w.cell? ⟨g, 0, none⟩ = some a ∧ w.cell? ⟨g, 1, none⟩ = some b ∧ w.cell? ⟨g, 2, none⟩ = some c ∧
    w.cell? ⟨g, 3, none⟩ = some d ∧ w.cell? ⟨g, 4, none⟩ = some e ∧ w.cell? ⟨g, 5, none⟩ = some f ∧ w.cell? ⟨g, 6, none⟩ = some h :=
  ⟨k.cell 0, k.cell 1, k.cell 2, k.cell 3, k.cell 4, k.cell 5, k.cell 6⟩
theorem seven_frozen {w : World} {g : Nat} {t : TypeId} {cs : List Value} (h : Blk w g t cs) : w.frozen? ⟨g, 0, none⟩ = false ∧ w.frozen? ⟨g, 1, none⟩ = false ∧ w.frozen? ⟨g, 2, none⟩ = false ∧
    w.frozen? ⟨g, 3, none⟩ = false ∧ w.frozen? ⟨g, 4, none⟩ = false ∧ w.frozen? ⟨g, 5, none⟩ = false ∧ w.frozen? ⟨g, 6, none⟩ = false :=
  ⟨h.frozen 0, h.frozen 1, h.frozen 2, h.frozen 3, h.frozen 4, h.frozen 5, h.frozen 6⟩
theorem ws_cells {w : World} {g : Nat} {t : TypeId} {P : Nat → Bool} (h : Blk w g t (wsC P)) : w.cell? ⟨g, 0, none⟩ = some (.int .u64 (wd P 0)) ∧ w.cell? ⟨g, 1, none⟩ = some (.int .u64 (wd P 1)) ∧ w.cell? ⟨g, 2, none⟩ = some (.int .u64 (wd P 2)) ∧
    w.cell? ⟨g, 3, none⟩ = some (.int .u64 (wd P 3)) ∧ w.cell? ⟨g, 4, none⟩ = some (.int .u64 (wd P 4)) ∧ w.cell? ⟨g, 5, none⟩ = some (.int .u64 (wd P 5)) ∧ w.cell? ⟨g, 6, none⟩ = some (.int .u64 (wd P 6)) := seven_cells h

set_option maxRecDepth 100000 in
set_option maxHeartbeats 2000000 in
theorem with_any (P : Nat → Bool) (n : Nat) (hn : n < 448) (w : World) :
    Calls Tryd.prog 65 #[wsV P, .int .i64 n] w (GivesV w (wsV (addP P n))) := by
  have hq : (n : Int).tdiv 64 = ((n / 64 : Nat) : Int) := rfl
  have hr : (n : Int).tmod 64 = ((n % 64 : Nat) : Int) := rfl
  have hv : n / 64 < 7 := by omega
  have hm : n % 64 < 64 := Nat.mod_lt _ (by omega)
  have HIX := fun W => run_ws_index w.heap.size (n / 64) hv W
  have Z := Lib.hid ((Blk.new w (wsC P).toArray 64).alloc (.cells #[.int .u64 0, .int .u64 0, .int .u64 0, .int .u64 0, .int .u64 0, .int .u64 0, .int .u64 0] 64))
  unfold wsV
  go_enter Tryd.func65, Tryd.ntmps65
  go_wp2
  obtain ⟨W1, hW1⟩ : ∃ W1, W1 = ((w.alloc (.cells #[.int .u64 (wd P 0), .int .u64 (wd P 1), .int .u64 (wd P 2), .int .u64 (wd P 3), .int .u64 (wd P 4), .int .u64 (wd P 5), .int .u64 (wd P 6)] 64)).alloc (.cells #[.int .u64 0, .int .u64 0, .int .u64 0, .int .u64 0, .int .u64 0, .int .u64 0, .int .u64 0] 64)) := ⟨_, rfl⟩
  rw [← hW1]
  have Z1 : Blk W1 w.heap.size 64 (wsC P) := by rw [hW1]; exact Z.out
  have Y1 : Blk W1 (w.heap.size + 1) 64 [.int .u64 0, .int .u64 0, .int .u64 0, .int .u64 0, .int .u64 0, .int .u64 0, .int .u64 0] := by
    rw [hW1]
    have := Blk.new (w.alloc (.cells (wsC P).toArray 64)) #[.int .u64 0, .int .u64 0, .int .u64 0, .int .u64 0, .int .u64 0, .int .u64 0, .int .u64 0] 64
    rw [World.size_alloc] at this
    exact this
  have B1 : Below w.heap.size w W1 := by rw [hW1]; exact (below_alloc _ _).trans ((below_alloc _ _).mono (by simp))
  have hc : W1.cell? ⟨w.heap.size, n / 64, none⟩ = some (.int .u64 (wd P (n / 64))) := by rw [Z1.cell]; exact wsC_at P hv
  have hf := Z1.frozen (n / 64)
  have hp : (2 : Int) ^ (n % 64) = ((2 ^ (n % 64) : Nat) : Int) := by simp
  have hp2 : 2 ^ (n % 64) < 18446744073709551616 := Nat.pow_lt_pow_right (a := 2) (by omega) hm
  have hsh : IntKind.u64.wrap ((2 : Int) ^ (n % 64)) = (2 : Int) ^ (n % 64) := by
    rw [hp]
    generalize 2 ^ (n % 64) = X at hp2
    rw [IntKind.wrap_u64]; omega
  have hor : bits BinOp.or IntKind.u64 ((wd P (n / 64) : Nat) : Int) ((2 : Int) ^ (n % 64)) = ((wd (addP P n) (n / 64) : Nat) : Int) := by
    rw [hp, bits_or_u64_nat _ _ (wd_lt _ _) hp2, wd_add]
  have WA := Lib.hid (wsC_add P hn)
  have Z1 := Lib.hid Z1
  have Y1 := Lib.hid Y1
  have B1 := Lib.hid B1
  have HP := Lib.hid hp2
  clear hW1 hp hp2
  go_region
  obtain ⟨W2, hW2⟩ : ∃ W2, W2 = (W1.setCell ⟨w.heap.size, n / 64, none⟩ (.int .u64 (wd (addP P n) (n / 64)))).drew := ⟨_, rfl⟩
  rw [← hW2]
  have Z2 : Blk W2 w.heap.size 64 (wsC (addP P n)) := by rw [hW2, ← WA.out]; exact Z1.out.set _ _
  have Y2 : Blk W2 (w.heap.size + 1) 64 [.int .u64 0, .int .u64 0, .int .u64 0, .int .u64 0, .int .u64 0, .int .u64 0, .int .u64 0] := by
    rw [hW2]
    exact (setCell_heap W1 ⟨w.heap.size, n / 64, none⟩ _ (by show w.heap.size + 1 ≠ w.heap.size; omega)).trans Y1.out
  have B2 : Below w.heap.size w W2 := by
    rw [hW2]
    have h := B1.out.setCell (p := ⟨w.heap.size, n / 64, none⟩) (Nat.le_refl _) (.int .u64 (wd (addP P n) (n / 64)))
    exact ⟨h.os, h.tape, h.output, h.size, h.block⟩
  clear hW2
  obtain ⟨q0, q1, q2, q3, q4, q5, q6⟩ := ws_cells Z2
  obtain ⟨y0, y1, y2, y3, y4, y5, y6⟩ := seven_cells Y2
  obtain ⟨f0, f1, f2, f3, f4, f5, f6⟩ := seven_frozen Y2
  have B2 := Lib.hid B2
  clear Z2 Y2
  generalize addP P n = Q at *
  go_wp2_with fail
  refine bodyPost_ret (v := wsV Q) (by simp [results, Tryd.results65, go_sem, y0, y1, y2, y3, y4, y5, y6, wsV]) rfl ⟨rfl, ?_⟩
  exact ((((((B2.out.setCell (by simp) _).setCell (by simp) _).setCell (by simp) _).setCell (by simp) _).setCell (by simp) _).setCell (by simp) _).setCell (by simp) _
end Go.Proofs.YtmlhnnkdecabpaaDoor
