/- Bits: helpers of the program and of the model. -/
import Derived.Test.YtnhjcokmajejcaaBit0
import Derived.Test.YtnhjcokmajejcaaIl
import Derived.Test.YtnhjcokmajejcaaIntApp
import Derived.Test.YtnhjcokmajejcaaEvalB
import Derived.Deep.QuietTactic
import Derived.BigQuiet
import Derived.RegionTactic
import Derived.BigRegion
import Derived.Laws.Bits64b
import Derived.Laws.BitsAllLaws
namespace Go.Proofs.Ytnhjcokmajejcaa
open Go.RowKit

theorem l6Many_any (v : Int) (w : World) (h0 : 1 ≤ v) (h1 : v ≤ 20) : Calls Try.prog 111 #[.int .i64 v] w (GivesInt w (wdt v)) := by
  have H0 := Lib.hid h0
  have H1 := Lib.hid h1
  clear h0 h1
  go_enter Try.func111, Try.ntmps111
  go_wp2
  go_loopg [3, 4] 6 (fun m n p wr => ∃ (k : Nat) (q : Int), k + m = 6 ∧ n = .int .i64 k ∧ p = .int .i64 q ∧ Hid (q = ((2 ^ k : Nat) : Int) ∧ k ≤ 5 ∧ (k = 0 ∨ ((2 ^ (k - 1) : Nat) : Int) < v)) ∧ wr = w)
  case atStart => exact ⟨0, 1, by omega, rfl, rfl, Lib.hid ⟨rfl, by omega, .inl rfl⟩, rfl⟩
  case round =>
    obtain ⟨k, q, hk, rfl, rfl, hq, rfl⟩ := hrel
    by_cases hlt : q < v
    · have hk4 : k ≤ 4 := by
        obtain ⟨e, h5, _⟩ := hq.out
        have := H1.out
        by_cases c : k = 5
        · subst c; simp at e; omega
        · omega
      have hq0 : 1 ≤ q ∧ q ≤ 20 := by
        obtain ⟨e, _, _⟩ := hq.out
        have := H1.out
        have := Nat.two_pow_pos k
        omega
      have HN : Hid (q * 2 = ((2 ^ (k + 1) : Nat) : Int) ∧ k + 1 ≤ 5 ∧ (k + 1 = 0 ∨ ((2 ^ (k + 1 - 1) : Nat) : Int) < v)) := Lib.hid (by
        obtain ⟨e, _, _⟩ := hq.out
        refine ⟨by rw [Nat.pow_succ]; omega, by omega, .inr ?_⟩
        rw [show k + 1 - 1 = k by omega, ← e]; exact hlt)
      have w2 : IntKind.i64.wrap (q * 2) = q * 2 := IntWalk.i64_in _ (by omega)
      go_wp2
      go_roundg (6 - (k + 1))
      case measure => omega
      case rel => exact ⟨k + 1, q * 2, by omega, by go_num, rfl, HN, rfl⟩
    · have HE : Hid (((k : Nat) : Int) = ((wdt v : Nat) : Int)) := Lib.hid (by
        obtain ⟨e, h5, h2⟩ := hq.out
        rw [← wdt_of (v := v) h5 (by omega) h2])
      go_wp2
      go_ret
      exact ⟨congrArg (fun z => Ending.returned (.int .i64 z)) HE.out, Below.refl _ _⟩

set_option maxHeartbeats 1000000 in
set_option maxRecDepth 100000 in
theorem l6Value_any (N M : Nat) (w : World) (hM : M ≤ 12) (hN : N < 4096) : Calls Try.prog 79 #[.int .i64 N, .int .i64 M] w (GivesInts w (bitsN N M)) := by
  have hown0 := World.ownsRow_lit (base := w.heap.size) (e := 3) (size := 1) w #[] 0 (Nat.le_refl _) (by unfold maxLen; omega) rfl
  go_enter Try.func79, Try.ntmps79
  go_wp2
  go_loopg [5, 6] M (fun m v i wr => ∃ k j : Nat, k + m = M ∧ k + j = M ∧ i = .int .i64 ((j : Int) - 1) ∧ wr.ownsRow w.heap.size 3 1 v k (ints ((bitsN N M).take k)) ∧ Below w.heap.size w wr)
  case atStart => exact ⟨0, M, by omega, by omega, by go_num, hown0, below_alloc _ _⟩
  case round =>
    clear hown0
    obtain ⟨k, j, hk, hkj, rfl, ho, hb⟩ := hrel
    by_cases hlt : 0 < j
    · obtain ⟨j, rfl⟩ : ∃ i, j = i + 1 := ⟨j - 1, by omega⟩
      rw [show ((j + 1 : Nat) : Int) - 1 = (j : Int) by omega]
      have HO := Lib.hid ho
      have HT := Lib.hid (bitsN_take (n := N) (m := M) (k := k) (by omega))
      have eb : ((N : Int) / 2 ^ j).tmod 2 = bt N M k := by
        unfold bt
        rw [show M - 1 - k = j by omega]
        rw [Int.tmod_eq_emod_of_nonneg (Int.ediv_nonneg (by omega) (Int.le_of_lt (Int.pow_pos (by omega))))]
        simp
      have hj : j ≤ 64 := by omega
      generalize bt N M k = z at *
      go_wp2_with (first
        | (at_builtin; refine app_int_at rfl _ _ rfl w.heap.size _ k _ _ _ rfl (HO.out.alloc _) rfl (World.cell?_alloc_at _ _ _ _ (by simp)) (by omega) (by have := hb.size; simp; omega) ?_; intro v' w4 ho4 hb4))
      go_roundg j
      case measure => omega
      case rel => exact ⟨k + 1, j, by omega, by omega, by go_num, by rw [HT.out]; exact ho4, (hb.alloc hb.size _).trans hb4⟩
    · obtain rfl : j = 0 := by omega
      obtain rfl : k = M := by omega
      go_wp2
      go_ret
      rw [List.take_of_length_le (by rw [bitsN_len]; exact Nat.le_refl _)] at ho
      have hl := bitsN_len N k
      refine ⟨_, rfl, ?_, hb⟩
      rw [hl]
      exact ho
/-- A row of bits as the program holds it. -/
def rwV (W m : Nat) : Value := .agg #[.int .u64 W, .int .i64 m]

set_option maxRecDepth 100000 in
set_option maxHeartbeats 1000000 in
theorem with_any (W m n j : Nat) (w : World) (hW : W < 4096) (hn : n < 2 ^ j) (hj : j ≤ 12) (hm : m ≤ 100) : Calls Try.prog 117 #[.agg #[.int .u64 W, .int .i64 m], .int .i64 n, .int .i64 j] w (GivesV w (rwV (W * 2 ^ j + n) (m + j))) := by
  have h2 : 2 ^ j ≤ 4096 := Nat.pow_le_pow_right (n := 2) (by omega) hj
  have hp : (2 : Int) ^ j = ((2 ^ j : Nat) : Int) := by simp
  have hq : W * 2 ^ j ≤ 4096 * 4096 := Nat.mul_le_mul (by omega) h2
  have hsh : IntKind.u64.wrap ((W : Int) * 2 ^ j) = (W : Int) * 2 ^ j := by
    rw [hp, ← Int.natCast_mul]
    generalize W * 2 ^ j = X at hq
    rw [IntKind.wrap_u64]; omega
  have hcv : IntKind.u64.wrap (n : Int) = (n : Int) := by rw [IntKind.wrap_u64]; omega
  have hor : bits BinOp.or IntKind.u64 ((W : Int) * 2 ^ j) (n : Int) = ((W * 2 ^ j + n : Nat) : Int) := by
    rw [hp, ← Int.natCast_mul, bits_or_u64_nat _ _ (by omega) (by omega), Nat.mul_comm, ← Nat.two_pow_add_eq_or_of_lt hn]
  have hwm : IntKind.i64.wrap ((m : Int) + j) = ((m + j : Nat) : Int) := by rw [show ((m : Int) + j) = ((m + j : Nat) : Int) by omega]; exact IntWalk.i64_in _ (by omega)
  have hj' : j ≤ 64 := by omega
  unfold rwV
  generalize W * 2 ^ j + n = Z at *
  generalize m + j = M at *
  clear hp hq h2 hn
  go_enter Try.func117, Try.ntmps117
  go_wp2
  go_region
  go_wp2_with fail
  refine bodyPost_ret (v := .agg #[.int .u64 Z, .int .i64 M]) (by simp [results, Try.results117, go_sem]) rfl ⟨rfl, ?_⟩
  exact ((below_alloc _ _).trans ((below_alloc _ _).mono (by simp))).trans ⟨rfl, rfl, rfl, Nat.le_refl _, fun _ _ => rfl⟩
/-- How the library counts bits. -/
def ocW (z : Int) : Int :=
  let x1 := IntKind.u64.wrap (bits BinOp.and IntKind.u64 (z / 2) 6148914691236517205 + bits BinOp.and IntKind.u64 z 6148914691236517205)
  let x2 := IntKind.u64.wrap (bits BinOp.and IntKind.u64 (x1 / 4) 3689348814741910323 + bits BinOp.and IntKind.u64 x1 3689348814741910323)
  let x3 := bits BinOp.and IntKind.u64 (IntKind.u64.wrap (x2 / 16 + x2)) 1085102592571150095
  let x4 := IntKind.u64.wrap (x3 + x3 / 256)
  let x5 := IntKind.u64.wrap (x4 + x4 / 65536)
  let x6 := IntKind.u64.wrap (x5 + x5 / 4294967296)
  bits BinOp.and IntKind.i64 (wrap64 x6) 127
theorem ocW_fin : ∀ (u : Fin 32) (v : Fin 64), ocW ((64 * u.val + v.val : Nat) : Int) = ((popTo (64 * u.val + v.val) 11 : Nat) : Int) := by decide +kernel
theorem ocW_pop (z : Nat) (h : z < 2048) : ocW (z : Int) = ((popTo z 11 : Nat) : Int) := by
  have := ocW_fin ⟨z / 64, by omega⟩ ⟨z % 64, by omega⟩
  simp only [show 64 * (z / 64) + z % 64 = z by omega] at this
  exact this

/-- Two cells of a row in its box. -/
theorem rw_box {w : World} {v1 v2 : Value} {t : TypeId} : ∀ W, Below (w.alloc (.cells #[v1, v2] t)).heap.size (w.alloc (.cells #[v1, v2] t)) W →
    Below w.heap.size w W ∧ W.cell? ⟨w.heap.size, 0, none⟩ = some v1 ∧ W.cell? ⟨w.heap.size, 1, none⟩ = some v2 :=
  fun W hW => ⟨below_call hW, ((Blk.new w _ _).below hW (by simp)).cell 0, ((Blk.new w _ _).below hW (by simp)).cell 1⟩

set_option maxRecDepth 100000 in
set_option maxHeartbeats 1000000 in
theorem rwList_any (N M : Nat) (w : World) (hM : M ≤ 12) (hN : N < 4096) : Calls Try.prog 41 #[.agg #[.int .u64 N, .int .i64 M]] w (GivesInts w (bitsN N M)) := by
  have BX := Lib.hid (rw_box (w := w) (v1 := .int .u64 N) (v2 := .int .i64 M) (t := 78))
  have B0 := Below.refl (w.alloc (.cells #[.int .u64 N, .int .i64 M] 78)).heap.size (w.alloc (.cells #[.int .u64 N, .int .i64 M] 78))
  go_enter Try.func41, Try.ntmps41
  go_wp2_with (first
    | (at_make; refine wpList_make_own _ rfl _ _ 26 rfl (w.alloc (.cells #[.int .u64 N, .int .i64 M] 78)).heap.size 3 intRow _ 1 Try.underlying26 int_row.1 int_row.2.1 int_row.2.2.1 _ _ _ M rfl rfl (by omega) (by rw [int_row.2.2.2]; omega) (by unfold maxLen; omega) (Nat.le_refl _) ?_; intro w3 hown hg
       have b3 := B0.grown hg (Nat.le_refl _) (by simp)
       obtain ⟨B3, y0, y1⟩ := BX.out _ b3
       rw [World.size_alloc] at hown b3
       clear hg))
  go_loopg [3, 4] M (fun m v i wr => ∃ k j : Nat, k + m = M ∧ k + j = M ∧ i = .int .i64 ((j : Int) - 1) ∧ wr.ownsRow (w.heap.size + 1) 3 1 v k (ints ((bitsN N M).take k)) ∧ Below (w.heap.size + 1) (w.alloc (.cells #[.int .u64 N, .int .i64 M] 78)) wr)
  case atStart => exact ⟨0, M, by omega, by omega, by go_num, hown, b3⟩
  case round =>
    clear hown B3 y0 y1
    obtain ⟨k, j, hk, hkj, rfl, ho, hb⟩ := hrel
    obtain ⟨B, x0, x1⟩ := BX.out _ (by rw [World.size_alloc]; exact hb)
    have hz0 := hb.size
    rw [World.size_alloc] at hz0
    by_cases hlt : 0 < j
    · obtain ⟨j, rfl⟩ : ∃ i, j = i + 1 := ⟨j - 1, by omega⟩
      rw [show ((j + 1 : Nat) : Int) - 1 = (j : Int) by omega]
      have HO := Lib.hid ho
      have HT := Lib.hid (bitsN_take (n := N) (m := M) (k := k) (by omega))
      have eb : bits BinOp.and IntKind.u64 ((N : Int) / 2 ^ j) 1 = bt N M k := by
        unfold bt
        rw [show M - 1 - k = j by omega]
        have hp : (N : Int) / 2 ^ j = ((N / 2 ^ j : Nat) : Int) := by simp
        have hl : N / 2 ^ j ≤ N := Nat.div_le_self _ _
        rw [hp]
        have := bits_and_u64_nat (N / 2 ^ j) 1 (by omega) (by omega)
        rw [Nat.and_one_is_mod] at this
        exact this
      have hz := bt_01 N M k
      have hcv : IntKind.i64.wrap (bt N M k) = bt N M k := IntWalk.i64_in _ (by omega)
      have hj : j ≤ 64 := by omega
      generalize bt N M k = z at *
      go_wp2_with (first
        | (at_builtin; refine app_int_at rfl _ _ rfl (w.heap.size + 1) _ k _ _ _ rfl (HO.out.alloc _) rfl (World.cell?_alloc_at _ _ _ _ (by simp)) (by omega) (by simp; omega) ?_; intro v' w4 ho4 hb4))
      go_roundg j
      case measure => omega
      case rel => exact ⟨k + 1, j, by omega, by omega, by go_num, by rw [HT.out]; exact ho4, (hb.alloc hz0 _).trans hb4⟩
    · obtain rfl : j = 0 := by omega
      obtain rfl : k = M := by omega
      go_wp2
      go_ret
      rw [List.take_of_length_le (by rw [bitsN_len]; exact Nat.le_refl _)] at ho
      have hl := bitsN_len N k
      refine ⟨_, rfl, ?_, B⟩
      rw [hl]
      exact own_lower ho (by simp)
end Go.Proofs.Ytnhjcokmajejcaa
