/- The values of a truth in all rows of bits, 64 rows in a word (plain). -/
import Derived.Test.YtnhjcokmajejcaaDoorRo
import Derived.Test.YtnhjcokmajejcaaDoorCiP
import Derived.Test.YtnhjcokmajejcaaDoorBit0
namespace Go.Proofs.YtnhjcokmajejcaaDoor
open Go.RowKit
set_option maxRecDepth 100000

/-- The values that are asked, from a variable on: the lowest bits of a row are the first variables'. -/
def lsR (val : Nat → Int) : Nat → Nat → Nat → List Int
  | 0, _, row => [val row]
  | k + 1, v, row => lsR val k (v + 1) row ++ lsR val k (v + 1) (row ||| 1 <<< v)
theorem lsR_zero (val : Nat → Int) (v row : Nat) : lsR val 0 v row = [val row] := rfl
theorem lsR_succ (val : Nat → Int) (k v row : Nat) : lsR val (k + 1) v row = lsR val k (v + 1) row ++ lsR val k (v + 1) (row ||| 1 <<< v) := rfl
theorem lsR_len (val : Nat → Int) : ∀ k v row, (lsR val k v row).length = 2 ^ k
  | 0, _, _ => rfl
  | k + 1, v, row => by rw [lsR_succ, List.length_append, lsR_len val k, lsR_len val k, Nat.pow_succ]; omega
theorem lsR_take (val : Nat → Int) (k v row : Nat) : (lsR val (k + 1) v row).take (2 ^ k) = lsR val k (v + 1) row := by
  rw [lsR_succ, List.take_left' (lsR_len val k _ _)]
theorem lsR_drop (val : Nat → Int) (k v row : Nat) : (lsR val (k + 1) v row).drop (2 ^ k) = lsR val k (v + 1) (row ||| 1 <<< v) := by
  rw [lsR_succ, List.drop_left' (lsR_len val k _ _)]
theorem lsR_01 {val : Nat → Int} (h : ∀ r, val r = 0 ∨ val r = 1) : ∀ k v row, ∀ x ∈ lsR val k v row, x = 0 ∨ x = 1
  | 0, _, row, x, hx => by
    rw [lsR_zero, List.mem_singleton] at hx
    rw [hx]; exact h row
  | k + 1, v, row, x, hx => by
    rw [lsR_succ, List.mem_append] at hx
    exact hx.elim (lsR_01 h k _ _ x) (lsR_01 h k _ _ x)
theorem row_or {row v : Nat} (h : row < 2 ^ v) : row ||| 1 <<< v < 2 ^ (v + 1) := by
  rw [Nat.one_shiftLeft]
  exact Nat.or_lt_two_pow (Nat.lt_of_lt_of_le h (Nat.pow_le_pow_right (by omega) (Nat.le_succ v))) (Nat.pow_lt_pow_right (by omega) (Nat.lt_succ_self v))
/-- The bits of a row, the lowest first. -/
def rowBits (n row : Nat) : List Bool := (List.range n).map fun i => row.testBit i
/-- The values of a truth, by the first variable that differs. -/
def rowsT (n : Nat) (T : List Bool → Bool) : List Int := (List.range (2 ^ n)).map fun p => bi (T (boL (bitsN p n)))
theorem rowsT_len (n : Nat) (T : List Bool → Bool) : (rowsT n T).length = 2 ^ n := by simp [rowsT]
theorem bi_01 (b : Bool) : bi b = 0 ∨ bi b = 1 := by cases b <;> simp [bi]
theorem rowsT_01 (n : Nat) (T : List Bool → Bool) : ∀ x ∈ rowsT n T, x = 0 ∨ x = 1 := by
  intro x hx
  obtain ⟨p, _, rfl⟩ := List.mem_map.1 hx
  exact bi_01 _
/-- The bits of a row whose first ones stand already. -/
def mixB (n v row p : Nat) : List Bool := (List.range n).map fun i => if i < v then row.testBit i else p.testBit (n - 1 - i)
theorem mixB_all {n row p : Nat} : mixB n n row p = rowBits n row := by
  unfold mixB rowBits
  refine List.map_congr_left fun i hi => ?_
  rw [List.mem_range] at hi
  rw [if_pos hi]
theorem mixB_none {n row p : Nat} : mixB n 0 row p = boL (bitsN p n) := by
  unfold mixB boL bitsN
  rw [List.map_map]
  refine List.map_congr_left fun i hi => ?_
  rw [if_neg (by omega)]
  show _ = decide (bt p n i = 1)
  unfold bt
  rw [Nat.testBit_eq_decide_div_mod_eq]
  by_cases e : p / 2 ^ (n - 1 - i) % 2 = 1
  · rw [decide_eq_true e, e]; rfl
  · rw [decide_eq_false e]
    have : p / 2 ^ (n - 1 - i) % 2 = 0 := by omega
    rw [this]; rfl
theorem lsR_mix (T : List Bool → Bool) (n : Nat) : ∀ k v row, v + k = n → row < 2 ^ v → lsR (fun r => bi (T (rowBits n r))) k v row = (List.range (2 ^ k)).map fun p => bi (T (mixB n v row p))
  | 0, v, row, h, _ => by
    obtain rfl : v = n := by omega
    rw [lsR_zero]
    show [bi (T (rowBits v row))] = (List.range 1).map _
    rw [show List.range 1 = [0] from rfl, List.map_singleton, mixB_all]
  | k + 1, v, row, h, hr => by
    have e2 : (2 : Nat) ^ (k + 1) = 2 ^ k + 2 ^ k := by rw [Nat.pow_succ]; omega
    rw [lsR_succ, lsR_mix T n k (v + 1) row (by omega) (Nat.lt_of_lt_of_le hr (Nat.pow_le_pow_right (by omega) (Nat.le_succ v))), lsR_mix T n k (v + 1) _ (by omega) (row_or hr), e2, List.range_add, List.map_append, List.map_map]
    have hrv : row.testBit v = false := Nat.testBit_lt_two_pow hr
    congr 1
    · refine List.map_congr_left fun p hp => ?_
      rw [List.mem_range] at hp
      congr 2
      unfold mixB
      refine List.map_congr_left fun i hi => ?_
      rw [List.mem_range] at hi
      by_cases q : i < v
      · rw [if_pos q, if_pos (by omega)]
      · by_cases q2 : i = v
        · subst q2
          rw [if_pos (by omega), if_neg (by omega), hrv, show n - 1 - i = k by omega]
          exact (Nat.testBit_lt_two_pow hp).symm
        · rw [if_neg (by omega), if_neg q]
    · refine List.map_congr_left fun p hp => ?_
      rw [List.mem_range] at hp
      show bi (T (mixB n (v + 1) (row ||| 1 <<< v) p)) = bi (T (mixB n v row (2 ^ k + p)))
      congr 2
      unfold mixB
      refine List.map_congr_left fun i hi => ?_
      rw [List.mem_range] at hi
      by_cases q : i < v
      · rw [if_pos q, if_pos (by omega), Nat.testBit_or, Nat.one_shiftLeft, Nat.testBit_two_pow, decide_eq_false (by omega), Bool.or_false]
      · by_cases q2 : i = v
        · subst q2
          rw [if_pos (by omega), if_neg (by omega), Nat.testBit_or, Nat.one_shiftLeft, Nat.testBit_two_pow_self, Bool.or_true, show n - 1 - i = k by omega, Nat.testBit_two_pow_add_eq, Nat.testBit_lt_two_pow hp]; rfl
        · rw [if_neg (by omega), if_neg q, Nat.testBit_two_pow_add_gt (by omega)]
theorem lsR_rows (T : List Bool → Bool) (n : Nat) : lsR (fun r => bi (T (rowBits n r))) n 0 0 = rowsT n T := by
  rw [lsR_mix T n n 0 0 (by omega) (by simp)]
  unfold rowsT
  refine List.map_congr_left fun p _ => ?_
  rw [mixB_none]
/-- How many words there are. -/
def blkN (n : Nat) : Nat := 2 ^ (n - 6)
/-- The values of the inputs in 64 rows of bits. -/
def colB (b i j : Nat) : Bool := if i < 6 then j.testBit i else b.testBit (i - 6)
def colsB (b n : Nat) : List (Nat → Bool) := (List.range n).map fun i => colB b i
theorem colsB_len (b n : Nat) : (colsB b n).length = n := by simp [colsB]
/-- The word of a truth. -/
def trW (T : List Bool → Bool) (n b : Nat) : Nat := fw fun j => T ((colsB b n).map fun P => P j)
def trL (T : List Bool → Bool) (n : Nat) : List Nat := (List.range (blkN n)).map (trW T n)
theorem trL_len (T : List Bool → Bool) (n : Nat) : (trL T n).length = blkN n := by simp [trL]
theorem trL_at (T : List Bool → Bool) {n b : Nat} (h : b < blkN n) : el (trL T n) b = trW T n b := by
  unfold el trL
  rw [List.getElem?_map, List.getElem?_range h]; rfl
theorem cols_row (n row : Nat) : (colsB (row / 64) n).map (fun P => P (row % 64)) = rowBits n row := by
  unfold colsB rowBits
  rw [List.map_map]
  refine List.map_congr_left fun i _ => ?_
  show colB (row / 64) i (row % 64) = row.testBit i
  unfold colB
  by_cases q : i < 6
  · rw [if_pos q, show (64 : Nat) = 2 ^ 6 from rfl, Nat.testBit_mod_two_pow, decide_eq_true q, Bool.true_and]
  · rw [if_neg q, show (64 : Nat) = 2 ^ 6 from rfl, Nat.testBit_div_two_pow, show i - 6 + 6 = i by omega]
theorem row_blk {n row : Nat} (h : row < 2 ^ n) : row / 64 < blkN n := by
  unfold blkN
  by_cases q : 6 ≤ n
  · have e : 2 ^ n = 64 * 2 ^ (n - 6) := by rw [show (64 : Nat) = 2 ^ 6 from rfl, ← Nat.pow_add, show 6 + (n - 6) = n by omega]
    rw [e] at h
    exact Nat.div_lt_of_lt_mul h
  · have : 2 ^ n ≤ 2 ^ 6 := Nat.pow_le_pow_right (by omega) (by omega)
    have := Nat.pow_pos (n := n - 6) (show 0 < 2 by omega)
    omega
theorem trW_bit (T : List Bool → Bool) (n row : Nat) : trW T n (row / 64) / 2 ^ (row % 64) % 2 = (bi (T (rowBits n row))).toNat := by
  have h := fw_bit (fun j => T ((colsB (row / 64) n).map fun P => P j)) (row % 64)
  rw [decide_eq_true (by omega), Bool.true_and, cols_row] at h
  change (trW T n (row / 64)).testBit (row % 64) = _ at h
  rw [Nat.testBit_eq_decide_div_mod_eq] at h
  cases e : T (rowBits n row)
  · rw [e] at h
    have := of_decide_eq_false h
    have z : (bi false).toNat = 0 := rfl
    rw [z]; omega
  · rw [e] at h
    exact of_decide_eq_true h
theorem trW_lt (T : List Bool → Bool) (n b : Nat) : trW T n b < 18446744073709551616 := fw_lt _
end Go.Proofs.YtnhjcokmajejcaaDoor
