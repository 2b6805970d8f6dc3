/- Bits: helpers of the program and of the model. -/
import Derived.Test.YtnhjcokmajejcaaDoorBit0
import Derived.Test.YtnhjcokmajejcaaDoorIl
import Derived.Test.YtnhjcokmajejcaaDoorIntApp
import Derived.Test.YtnhjcokmajejcaaDoorEvalB
import Derived.Deep.QuietTactic
import Derived.BigQuiet
import Derived.RegionTactic
import Derived.BigRegion
import Derived.Laws.Bits64b
import Derived.Laws.BitsAllLaws
namespace Go.Proofs.YtnhjcokmajejcaaDoor
open Go.RowKit

set_option maxHeartbeats 1000000 in
set_option maxRecDepth 100000 in
theorem l6Value_any (N M : Nat) (w : World) (hM : M ≤ 12) (hN : N < 4096) : Calls Tryd.prog 31 #[.int .i64 N, .int .i64 M] w (GivesInts w (bitsN N M)) := by
  have hown0 := World.ownsRow_lit (base := w.heap.size) (e := 3) (size := 1) w #[] 0 (Nat.le_refl _) (by unfold maxLen; omega) rfl
  go_enter Tryd.func31, Tryd.ntmps31
  go_wp2
  go_loopg [5, 6] M (fun m v i wr => ∃ k j : Nat, k + m = M ∧ k + j = M ∧ i = .int .i64 ((j : Int) - 1) ∧ wr.ownsRow w.heap.size 3 1 v k (ints ((bitsN N M).take k)) ∧ Below w.heap.size w wr)
  case atStart => exact ⟨0, M, by omega, by omega, by go_num, hown0, below_alloc _ _⟩
  case round =>
    clear hown0
    obtain ⟨k, j, hk, hkj, rfl, ho, hb⟩ := hrel
    by_cases hlt : 0 < j
    · obtain ⟨j, rfl⟩ : ∃ i, j = i + 1 := ⟨j - 1, by omega⟩
      rw [show ((j + 1 : Nat) : Int) - 1 = (j : Int) by omega]
      have HO := Lib.hid ho
      have HT := Lib.hid (bitsN_take (n := N) (m := M) (k := k) (by omega))
      have eb : ((N : Int) / 2 ^ j).tmod 2 = bt N M k := by
        unfold bt
        rw [show M - 1 - k = j by omega]
        rw [Int.tmod_eq_emod_of_nonneg (Int.ediv_nonneg (by omega) (Int.le_of_lt (Int.pow_pos (by omega))))]
        simp
      have hj : j ≤ 64 := by omega
      generalize bt N M k = z at *
      go_wp2_with (first
        | (at_builtin; refine app_int_at rfl _ _ rfl w.heap.size _ k _ _ _ rfl (HO.out.alloc _) rfl (World.cell?_alloc_at _ _ _ _ (by simp)) (by omega) (by have := hb.size; simp; omega) ?_; intro v' w4 ho4 hb4))
      go_roundg j
      case measure => omega
      case rel => exact ⟨k + 1, j, by omega, by omega, by go_num, by rw [HT.out]; exact ho4, (hb.alloc hb.size _).trans hb4⟩
    · obtain rfl : j = 0 := by omega
      obtain rfl : k = M := by omega
      go_wp2
      go_ret
      rw [List.take_of_length_le (by rw [bitsN_len]; exact Nat.le_refl _)] at ho
      have hl := bitsN_len N k
      refine ⟨_, rfl, ?_, hb⟩
      rw [hl]
      exact ho
/-- A row of bits as the program holds it. -/
def rwV (W m : Nat) : Value := .agg #[.int .u64 W, .int .i64 m]

/-- How the library counts bits. -/
def ocW (z : Int) : Int :=
  let x1 := IntKind.u64.wrap (bits BinOp.and IntKind.u64 (z / 2) 6148914691236517205 + bits BinOp.and IntKind.u64 z 6148914691236517205)
  let x2 := IntKind.u64.wrap (bits BinOp.and IntKind.u64 (x1 / 4) 3689348814741910323 + bits BinOp.and IntKind.u64 x1 3689348814741910323)
  let x3 := bits BinOp.and IntKind.u64 (IntKind.u64.wrap (x2 / 16 + x2)) 1085102592571150095
  let x4 := IntKind.u64.wrap (x3 + x3 / 256)
  let x5 := IntKind.u64.wrap (x4 + x4 / 65536)
  let x6 := IntKind.u64.wrap (x5 + x5 / 4294967296)
  bits BinOp.and IntKind.i64 (wrap64 x6) 127
theorem ocW_fin : ∀ (u : Fin 32) (v : Fin 64), ocW ((64 * u.val + v.val : Nat) : Int) = ((popTo (64 * u.val + v.val) 11 : Nat) : Int) := by decide +kernel
theorem ocW_pop (z : Nat) (h : z < 2048) : ocW (z : Int) = ((popTo z 11 : Nat) : Int) := by
  have := ocW_fin ⟨z / 64, by omega⟩ ⟨z % 64, by omega⟩
  simp only [show 64 * (z / 64) + z % 64 = z by omega] at this
  exact this

/-- Two cells of a row in its box. -/
theorem rw_box {w : World} {v1 v2 : Value} {t : TypeId} : ∀ W, Below (w.alloc (.cells #[v1, v2] t)).heap.size (w.alloc (.cells #[v1, v2] t)) W →
    Below w.heap.size w W ∧ W.cell? ⟨w.heap.size, 0, none⟩ = some v1 ∧ W.cell? ⟨w.heap.size, 1, none⟩ = some v2 :=
  fun W hW => ⟨below_call hW, ((Blk.new w _ _).below hW (by simp)).cell 0, ((Blk.new w _ _).below hW (by simp)).cell 1⟩

end Go.Proofs.YtnhjcokmajejcaaDoor
