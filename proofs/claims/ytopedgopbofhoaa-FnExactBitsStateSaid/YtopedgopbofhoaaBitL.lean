/- Bits: helpers of the program and of the model. -/
import Derived.Test.YtopedgopbofhoaaBit0
import Derived.Test.YtopedgopbofhoaaIl
import Derived.Test.YtopedgopbofhoaaIntApp
import Derived.Test.YtopedgopbofhoaaEvalB
import Derived.Deep.QuietTactic
import Derived.BigQuiet
import Derived.RegionTactic
import Derived.BigRegion
import Derived.Laws.Bits64b
import Derived.Laws.BitsAllLaws
namespace Go.Proofs.Ytopedgopbofhoaa
open Go.RowKit

theorem l6Many_any (v : Int) (w : World) (h0 : 1 ≤ v) (h1 : v ≤ 20) : Calls Try.prog 41 #[.int .i64 v] w (GivesInt w (wdt v)) := by
  have H0 := Lib.hid h0
  have H1 := Lib.hid h1
  clear h0 h1
  go_enter Try.func41, Try.ntmps41
  go_wp2
  go_loopg [3, 4] 6 (fun m n p wr => ∃ (k : Nat) (q : Int), k + m = 6 ∧ n = .int .i64 k ∧ p = .int .i64 q ∧ Hid (q = ((2 ^ k : Nat) : Int) ∧ k ≤ 5 ∧ (k = 0 ∨ ((2 ^ (k - 1) : Nat) : Int) < v)) ∧ wr = w)
  case atStart => exact ⟨0, 1, by omega, rfl, rfl, Lib.hid ⟨rfl, by omega, .inl rfl⟩, rfl⟩
  case round =>
    obtain ⟨k, q, hk, rfl, rfl, hq, rfl⟩ := hrel
    by_cases hlt : q < v
    · have hk4 : k ≤ 4 := by
        obtain ⟨e, h5, _⟩ := hq.out
        have := H1.out
        by_cases c : k = 5
        · subst c; simp at e; omega
        · omega
      have hq0 : 1 ≤ q ∧ q ≤ 20 := by
        obtain ⟨e, _, _⟩ := hq.out
        have := H1.out
        have := Nat.two_pow_pos k
        omega
      have HN : Hid (q * 2 = ((2 ^ (k + 1) : Nat) : Int) ∧ k + 1 ≤ 5 ∧ (k + 1 = 0 ∨ ((2 ^ (k + 1 - 1) : Nat) : Int) < v)) := Lib.hid (by
        obtain ⟨e, _, _⟩ := hq.out
        refine ⟨by rw [Nat.pow_succ]; omega, by omega, .inr ?_⟩
        rw [show k + 1 - 1 = k by omega, ← e]; exact hlt)
      have w2 : IntKind.i64.wrap (q * 2) = q * 2 := IntWalk.i64_in _ (by omega)
      go_wp2
      go_roundg (6 - (k + 1))
      case measure => omega
      case rel => exact ⟨k + 1, q * 2, by omega, by go_num, rfl, HN, rfl⟩
    · have HE : Hid (((k : Nat) : Int) = ((wdt v : Nat) : Int)) := Lib.hid (by
        obtain ⟨e, h5, h2⟩ := hq.out
        rw [← wdt_of (v := v) h5 (by omega) h2])
      go_wp2
      go_ret
      exact ⟨congrArg (fun z => Ending.returned (.int .i64 z)) HE.out, Below.refl _ _⟩

/-- A row of bits as the program holds it. -/
def rwV (W m : Nat) : Value := .agg #[.int .u64 W, .int .i64 m]

set_option maxRecDepth 100000 in
set_option maxHeartbeats 1000000 in
theorem with_any (W m n j : Nat) (w : World) (hW : W < 4096) (hn : n < 2 ^ j) (hj : j ≤ 12) (hm : m ≤ 100) : Calls Try.prog 45 #[.agg #[.int .u64 W, .int .i64 m], .int .i64 n, .int .i64 j] w (GivesV w (rwV (W * 2 ^ j + n) (m + j))) := by
  have h2 : 2 ^ j ≤ 4096 := Nat.pow_le_pow_right (n := 2) (by omega) hj
  have hp : (2 : Int) ^ j = ((2 ^ j : Nat) : Int) := by simp
  have hq : W * 2 ^ j ≤ 4096 * 4096 := Nat.mul_le_mul (by omega) h2
  have hsh : IntKind.u64.wrap ((W : Int) * 2 ^ j) = (W : Int) * 2 ^ j := by
    rw [hp, ← Int.natCast_mul]
    generalize W * 2 ^ j = X at hq
    rw [IntKind.wrap_u64]; omega
  have hcv : IntKind.u64.wrap (n : Int) = (n : Int) := by rw [IntKind.wrap_u64]; omega
  have hor : bits BinOp.or IntKind.u64 ((W : Int) * 2 ^ j) (n : Int) = ((W * 2 ^ j + n : Nat) : Int) := by
    rw [hp, ← Int.natCast_mul, bits_or_u64_nat _ _ (by omega) (by omega), Nat.mul_comm, ← Nat.two_pow_add_eq_or_of_lt hn]
  have hwm : IntKind.i64.wrap ((m : Int) + j) = ((m + j : Nat) : Int) := by rw [show ((m : Int) + j) = ((m + j : Nat) : Int) by omega]; exact IntWalk.i64_in _ (by omega)
  have hj' : j ≤ 64 := by omega
  unfold rwV
  generalize W * 2 ^ j + n = Z at *
  generalize m + j = M at *
  clear hp hq h2 hn
  go_enter Try.func45, Try.ntmps45
  go_wp2
  go_region
  go_wp2_with fail
  refine bodyPost_ret (v := .agg #[.int .u64 Z, .int .i64 M]) (by simp [results, Try.results45, go_sem]) rfl ⟨rfl, ?_⟩
  exact ((below_alloc _ _).trans ((below_alloc _ _).mono (by simp))).trans ⟨rfl, rfl, rfl, Nat.le_refl _, fun _ _ => rfl⟩
set_option maxRecDepth 100000 in
set_option maxHeartbeats 1000000 in
theorem cut_any (W m j : Nat) (w : World) (hW : W < 4096) (hj : j ≤ 12) (hm : m ≤ 100) (hjm : j ≤ m) : Calls Try.prog 50 #[.agg #[.int .u64 W, .int .i64 m], .int .i64 j] w (GivesV w (.tuple #[rwV (W / 2 ^ j) (m - j), .int .i64 ((W % 2 ^ j : Nat) : Int)])) := by
  have h2 : 2 ^ j ≤ 4096 := Nat.pow_le_pow_right (n := 2) (by omega) hj
  have h1 : 1 ≤ 2 ^ j := Nat.one_le_two_pow
  have hp : (2 : Int) ^ j = ((2 ^ j : Nat) : Int) := by simp
  have hsh : IntKind.u64.wrap ((2 : Int) ^ j) = (2 : Int) ^ j := by
    rw [hp]
    generalize 2 ^ j = X at h2
    rw [IntKind.wrap_u64]; omega
  have hsb : IntKind.u64.wrap ((2 : Int) ^ j - 1) = ((2 ^ j - 1 : Nat) : Int) := by
    rw [hp]
    generalize 2 ^ j = X at h1 h2
    rw [IntKind.wrap_u64]; omega
  have hand : bits BinOp.and IntKind.u64 (W : Int) ((2 ^ j - 1 : Nat) : Int) = ((W % 2 ^ j : Nat) : Int) := by
    rw [bits_and_u64_nat _ _ (by omega) (by omega), Nat.and_two_pow_sub_one_eq_mod]
  have hml : W % 2 ^ j < 4096 := Nat.lt_of_le_of_lt (Nat.mod_le _ _) hW
  have hcv : IntKind.i64.wrap ((W % 2 ^ j : Nat) : Int) = ((W % 2 ^ j : Nat) : Int) := IntWalk.i64_in _ (by omega)
  have hdv : (W : Int) / 2 ^ j = ((W / 2 ^ j : Nat) : Int) := by rw [hp]; rfl
  have hwm : IntKind.i64.wrap ((m : Int) - j) = ((m - j : Nat) : Int) := by rw [show ((m : Int) - j) = ((m - j : Nat) : Int) by omega]; exact IntWalk.i64_in _ (by omega)
  have hj' : j ≤ 64 := by omega
  unfold rwV
  generalize W / 2 ^ j = Z at *
  generalize W % 2 ^ j = Y at *
  generalize (2 ^ j - 1 : Nat) = X at *
  generalize m - j = M at *
  clear hp h2 h1
  go_enter Try.func50, Try.ntmps50
  go_wp2
  go_region
  go_wp2_with fail
  refine bodyPost_ret (v := .tuple #[.agg #[.int .u64 Z, .int .i64 M], .int .i64 Y]) (by simp [results, Try.results50, go_sem]) rfl ⟨rfl, ?_⟩
  exact ((below_alloc _ _).trans ((below_alloc _ _).mono (by simp))).trans ⟨rfl, rfl, rfl, Nat.le_refl _, fun _ _ => rfl⟩

/-- How the library counts bits. -/
def ocW (z : Int) : Int :=
  let x1 := IntKind.u64.wrap (bits BinOp.and IntKind.u64 (z / 2) 6148914691236517205 + bits BinOp.and IntKind.u64 z 6148914691236517205)
  let x2 := IntKind.u64.wrap (bits BinOp.and IntKind.u64 (x1 / 4) 3689348814741910323 + bits BinOp.and IntKind.u64 x1 3689348814741910323)
  let x3 := bits BinOp.and IntKind.u64 (IntKind.u64.wrap (x2 / 16 + x2)) 1085102592571150095
  let x4 := IntKind.u64.wrap (x3 + x3 / 256)
  let x5 := IntKind.u64.wrap (x4 + x4 / 65536)
  let x6 := IntKind.u64.wrap (x5 + x5 / 4294967296)
  bits BinOp.and IntKind.i64 (wrap64 x6) 127
theorem ocW_fin : ∀ (u : Fin 32) (v : Fin 64), ocW ((64 * u.val + v.val : Nat) : Int) = ((popTo (64 * u.val + v.val) 11 : Nat) : Int) := by decide +kernel
theorem ocW_pop (z : Nat) (h : z < 2048) : ocW (z : Int) = ((popTo z 11 : Nat) : Int) := by
  have := ocW_fin ⟨z / 64, by omega⟩ ⟨z % 64, by omega⟩
  simp only [show 64 * (z / 64) + z % 64 = z by omega] at this
  exact this

/-- Two cells of a row in its box. -/
theorem rw_box {w : World} {v1 v2 : Value} {t : TypeId} : ∀ W, Below (w.alloc (.cells #[v1, v2] t)).heap.size (w.alloc (.cells #[v1, v2] t)) W →
    Below w.heap.size w W ∧ W.cell? ⟨w.heap.size, 0, none⟩ = some v1 ∧ W.cell? ⟨w.heap.size, 1, none⟩ = some v2 :=
  fun W hW => ⟨below_call hW, ((Blk.new w _ _).below hW (by simp)).cell 0, ((Blk.new w _ _).below hW (by simp)).cell 1⟩

end Go.Proofs.Ytopedgopbofhoaa
