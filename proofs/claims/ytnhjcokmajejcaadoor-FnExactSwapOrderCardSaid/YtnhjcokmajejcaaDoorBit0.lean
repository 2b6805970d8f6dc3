/- Bits: plain numbers. -/
import Derived.Test.YtnhjcokmajejcaaDoorSysB
namespace Go.Proofs.YtnhjcokmajejcaaDoor
open Go.RowKit

/-- How many bits so many values take. -/
def wdt (v : Int) : Nat := if v ≤ 1 then 0 else if v ≤ 2 then 1 else if v ≤ 4 then 2 else if v ≤ 8 then 3 else if v ≤ 16 then 4 else 5
theorem wdt_le (v : Int) : wdt v ≤ 5 := by unfold wdt; repeat (first | omega | split)
theorem wdt_lt {v : Int} {x : Nat} (h : (x : Int) < v) (hv : v ≤ 20) : x < 2 ^ wdt v := by
  unfold wdt
  repeat (first | (simp; omega) | omega | split)
theorem wdt_of {v : Int} {k : Nat} (hk : k ≤ 5) (h1 : v ≤ ((2 ^ k : Nat) : Int)) (h2 : k = 0 ∨ ((2 ^ (k - 1) : Nat) : Int) < v) : k = wdt v := by
  unfold wdt
  rcases k with _ | _ | _ | _ | _ | _ | k
  all_goals (simp at h1 h2)
  all_goals (repeat (first | omega | split))
theorem wdt_five {v : Nat} (h0 : 1 ≤ v) (hv : v ≤ 20) : 5 ^ wdt (v : Int) ≤ v ^ 3 := by
  have : ∀ u : Fin 21, 1 ≤ u.val → 5 ^ wdt (u.val : Int) ≤ u.val ^ 3 := by decide +kernel
  exact this ⟨v, by omega⟩ h0

/-- A bit of a number of m bits, the highest one first. -/
def bt (n m i : Nat) : Int := ((n / 2 ^ (m - 1 - i) % 2 : Nat) : Int)
def bitsN (n m : Nat) : List Int := (List.range m).map (bt n m)
theorem bitsN_len (n m : Nat) : (bitsN n m).length = m := by unfold bitsN; simp
theorem bitsN_ix {n m i : Nat} (h : i < m) : ix (bitsN n m) i = bt n m i := by
  unfold ix bitsN
  rw [List.getElem?_map, List.getElem?_range h]; rfl
theorem bitsN_take {n m k : Nat} (h : k < m) : (bitsN n m).take (k + 1) = (bitsN n m).take k ++ [bt n m k] := by
  have e : (bitsN n m)[k]? = some (bt n m k) := by unfold bitsN; rw [List.getElem?_map, List.getElem?_range h]; rfl
  rw [List.take_add_one, e]; rfl
theorem bt_hi {n x m j i : Nat} (hx : x < 2 ^ j) (h : i < m) : bt (n * 2 ^ j + x) (m + j) i = bt n m i := by
  unfold bt
  have e : m + j - 1 - i = j + (m - 1 - i) := by omega
  rw [e, Nat.pow_add, ← Nat.div_div_eq_div_mul]
  have e2 : (n * 2 ^ j + x) / 2 ^ j = n := by
    rw [Nat.add_comm, Nat.add_mul_div_right _ _ (Nat.two_pow_pos j), Nat.div_eq_of_lt hx, Nat.zero_add]
  rw [e2]
theorem bt_lo {n x m j i : Nat} (h : i < j) : bt (n * 2 ^ j + x) (m + j) (m + i) = bt x j i := by
  unfold bt
  have e : m + j - 1 - (m + i) = j - 1 - i := by omega
  rw [e]
  obtain ⟨q, hq⟩ : ∃ q, j = (j - 1 - i) + 1 + q := ⟨i, by omega⟩
  have e2 : n * 2 ^ j = (n * 2 ^ q * 2) * 2 ^ (j - 1 - i) := by
    generalize j - 1 - i = p at hq
    rw [hq, Nat.pow_add, Nat.pow_add, Nat.pow_one]
    generalize 2 ^ p = a
    generalize 2 ^ q = b
    rw [Nat.mul_comm (a * 2) b, ← Nat.mul_assoc, Nat.mul_comm a 2, ← Nat.mul_assoc]
  rw [e2, Nat.add_comm, Nat.add_mul_div_right _ _ (Nat.two_pow_pos _)]
  generalize n * 2 ^ q = z
  rw [Nat.add_mul_mod_self_right]
theorem bitsN_app {n x m j : Nat} (hx : x < 2 ^ j) : bitsN (n * 2 ^ j + x) (m + j) = bitsN n m ++ bitsN x j := by
  apply List.ext_getElem?
  intro i
  by_cases h : i < m
  · rw [List.getElem?_append_left (by rw [bitsN_len]; exact h)]
    unfold bitsN
    rw [List.getElem?_map, List.getElem?_map, List.getElem?_range (by omega), List.getElem?_range h]
    show some _ = some _
    rw [bt_hi hx h]
  · rw [List.getElem?_append_right (by rw [bitsN_len]; omega), bitsN_len]
    by_cases h2 : i < m + j
    · unfold bitsN
      rw [List.getElem?_map, List.getElem?_map, List.getElem?_range h2, List.getElem?_range (by omega)]
      show some _ = some _
      have := bt_lo (n := n) (x := x) (m := m) (j := j) (i := i - m) (by omega)
      rw [show m + (i - m) = i by omega] at this
      rw [this]
    · rw [List.getElem?_eq_none (by rw [bitsN_len]; omega), List.getElem?_eq_none (by rw [bitsN_len]; omega)]
theorem bt_01 (n m i : Nat) : 0 ≤ bt n m i ∧ bt n m i ≤ 1 := by
  unfold bt
  have := Nat.mod_lt (n / 2 ^ (m - 1 - i)) (show 0 < 2 by omega)
  omega

/-- The number that the first k bits are. -/
def numN (l : List Int) : Nat → Nat
  | 0 => 0
  | k + 1 => numN l k * 2 + (ix l k).toNat
/-- Whether numbers are bits. -/
def bitAt (l : List Int) (k : Nat) : Bool := inB (ix l k) 0 1
def areB (l : List Int) : Bool := allTo (bitAt l) l.length
theorem bit_iff {l : List Int} {k : Nat} : bitAt l k = true ↔ (ix l k = 0 ∨ ix l k = 1) := by
  unfold bitAt inB
  simp
  omega
theorem numN_lt {l : List Int} : ∀ {k : Nat}, allTo (bitAt l) k = true → numN l k < 2 ^ k := by
  intro k
  induction k with
  | zero => intro _; simp [numN]
  | succ k ih =>
    intro h
    have a := allTo_true.1 h
    have b := ih (allTo_true.2 fun i hi => a i (by omega))
    have c := bit_iff.1 (a k (by omega))
    show numN l k * 2 + _ < _
    rw [Nat.pow_succ]
    rcases c with c | c <;> rw [c] <;> omega
/-- The number that bits are, or -1. -/
def bitsValB (l : List Int) : Int := if decide (l.length ≤ 12) && areB l then (numN l l.length : Int) else -1

/-- The bits of a number; none if it is out of range. -/
def valueBitsB (n many : Int) : List Int := if (decide (0 ≤ many) && decide (many ≤ 12)) && (decide (0 ≤ n) && decide (n < ((2 ^ many.toNat : Nat) : Int))) then bitsN n.toNat many.toNat else []
theorem valueBitsB_len (n many : Int) : (valueBitsB n many).length ≤ 1000000 := by
  unfold valueBitsB
  split
  · rename_i h
    simp at h
    rw [bitsN_len]; omega
  · simp

theorem ix_drop (l : List Int) (k j : Nat) : ix (l.drop k) j = ix l (k + j) := by unfold ix; rw [List.getElem?_drop]
theorem numN_add (l : List Int) (k : Nat) : ∀ j, numN l (k + j) = numN l k * 2 ^ j + numN (l.drop k) j
  | 0 => by simp [numN]
  | j + 1 => by
    show numN l (k + j) * 2 + _ = numN l k * 2 ^ (j + 1) + (numN (l.drop k) j * 2 + _)
    rw [numN_add l k j, ix_drop, Nat.pow_succ, Nat.add_mul, Nat.mul_assoc, Nat.add_assoc]; rfl
theorem numN_drop_lt {l : List Int} {n k j : Nat} (h : allTo (bitAt l) n = true) (hk : k + j ≤ n) : numN (l.drop k) j < 2 ^ j := by
  apply numN_lt
  rw [allTo_true]
  intro i hi
  have := allTo_true.1 h (k + i) (by omega)
  unfold bitAt at this ⊢
  rw [ix_drop]; exact this
/-- What the word of bits is behind a cut. -/
theorem numN_cut {l : List Int} {n k j : Nat} (h : allTo (bitAt l) n = true) (hk : k + j ≤ n) : numN l (k + j) / 2 ^ j = numN l k ∧ numN l (k + j) % 2 ^ j = numN (l.drop k) j := by
  have a := numN_drop_lt h hk
  rw [numN_add]
  constructor
  · rw [Nat.add_comm, Nat.add_mul_div_right _ _ (Nat.two_pow_pos j), Nat.div_eq_of_lt a, Nat.zero_add]
  · rw [Nat.add_comm, Nat.add_mul_mod_self_right, Nat.mod_eq_of_lt a]
/-- In how many of the first k bits two rows differ. -/
def difTo (x y : List Int) : Nat → Nat
  | 0 => 0
  | k + 1 => difTo x y k + (if ix x k = ix y k then 0 else 1)
/-- How many of the lowest k bits are set. -/
def popTo (z : Nat) : Nat → Nat
  | 0 => 0
  | k + 1 => popTo z k + (if z.testBit k then 1 else 0)
theorem bt_bit (n m i : Nat) : bt n m i = if n.testBit (m - 1 - i) then 1 else 0 := by
  unfold bt
  rw [Nat.testBit_eq_decide_div_mod_eq]
  have := Nat.mod_lt (n / 2 ^ (m - 1 - i)) (show 0 < 2 by omega)
  by_cases h : n / 2 ^ (m - 1 - i) % 2 = 1
  · rw [h]; simp
  · have e : n / 2 ^ (m - 1 - i) % 2 = 0 := by omega
    rw [e]; simp
theorem dif_pop (x y m : Nat) : ∀ k, k ≤ m → difTo (bitsN x m) (bitsN y m) k + popTo (x ^^^ y) (m - k) = popTo (x ^^^ y) m
  | 0, _ => by show 0 + _ = _; rw [Nat.zero_add]; rfl
  | k + 1, h => by
    have ih := dif_pop x y m k (by omega)
    rw [← ih]
    show difTo _ _ k + _ + _ = _
    have e : m - k = (m - (k + 1)) + 1 := by omega
    rw [e]
    show _ = _ + (popTo (x ^^^ y) (m - (k + 1)) + _)
    rw [bitsN_ix (show k < m by omega), bitsN_ix (show k < m by omega), bt_bit, bt_bit, Nat.testBit_xor, show m - 1 - k = m - (k + 1) by omega]
    cases x.testBit (m - (k + 1)) <;> cases y.testBit (m - (k + 1)) <;> simp <;> omega
theorem pop_hi {z m : Nat} (h : z < 2 ^ m) : ∀ {k : Nat}, m ≤ k → popTo z k = popTo z m := by
  intro k
  induction k with
  | zero => intro hk; have e : m = 0 := by omega
            rw [e]
  | succ k ih =>
    intro hk
    by_cases e : m = k + 1
    · rw [e]
    · show popTo z k + _ = _
      rw [ih (by omega), Nat.testBit_lt_two_pow (Nat.lt_of_lt_of_le h (Nat.pow_le_pow_right (by omega) (by omega)))]; simp
end Go.Proofs.YtnhjcokmajejcaaDoor
