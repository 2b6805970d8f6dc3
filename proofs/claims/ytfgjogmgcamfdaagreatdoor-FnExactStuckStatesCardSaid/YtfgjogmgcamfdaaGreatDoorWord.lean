/- Sets of numbers as bits of words: plain numbers. -/
import Derived.Test.YtfgjogmgcamfdaaGreatDoorSysB
import Derived.Lib.TrailingZeros
import Derived.Laws.Bits64b
import Derived.Laws.BitsAllLaws
namespace Go.Proofs.YtfgjogmgcamfdaaGreatDoor
open Go.RowKit

/-- The word of n bits from the number b on. -/
def wdN (P : Nat → Bool) (b : Nat) : Nat → Nat
  | 0 => 0
  | n + 1 => wdN P b n + (if P (b + n) then 2 ^ n else 0)
theorem wdN_lt (P : Nat → Bool) (b : Nat) : ∀ n, wdN P b n < 2 ^ n
  | 0 => by simp [wdN]
  | n + 1 => by
    have := wdN_lt P b n
    show wdN P b n + _ < _
    rw [Nat.pow_succ]
    split <;> omega
theorem wdN_bit (P : Nat → Bool) (b : Nat) : ∀ n j, (wdN P b n).testBit j = (decide (j < n) && P (b + j))
  | 0, j => by simp [wdN]
  | n + 1, j => by
    have h := wdN_lt P b n
    have ih := wdN_bit P b n
    show (wdN P b n + _).testBit j = _
    by_cases hp : P (b + n) = true
    · rw [if_pos hp, Nat.add_comm, ← Nat.mul_one (2 ^ n), Nat.testBit_two_pow_mul_add 1 h]
      by_cases hj : j < n
      · rw [if_pos hj, ih, decide_eq_true hj, decide_eq_true (show j < n + 1 by omega)]
      · rw [if_neg hj]
        by_cases e : j = n
        · subst e; simp [hp]
        · have : (1 : Nat).testBit (j - n) = false := by
            obtain ⟨i, hi⟩ : ∃ i, j - n = i + 1 := ⟨j - n - 1, by omega⟩
            rw [hi, Nat.testBit_succ]; simp
          rw [this, decide_eq_false (show ¬ j < n + 1 by omega)]; rfl
    · rw [if_neg hp, Nat.add_zero, ih]
      by_cases hj : j < n
      · rw [decide_eq_true hj, decide_eq_true (show j < n + 1 by omega)]
      · by_cases e : j = n
        · subst e
          have : P (b + j) = false := by simpa using hp
          simp [this]
        · rw [decide_eq_false hj, decide_eq_false (show ¬ j < n + 1 by omega)]
/-- The i-th word of a set. -/
def wd (P : Nat → Bool) (i : Nat) : Nat := wdN P (64 * i) 64
theorem wd_lt (P : Nat → Bool) (i : Nat) : wd P i < 18446744073709551616 := wdN_lt P (64 * i) 64
theorem wd_bit (P : Nat → Bool) (i j : Nat) : (wd P i).testBit j = (decide (j < 64) && P (64 * i + j)) := wdN_bit P _ 64 j
theorem wd_eq {P : Nat → Bool} {i x : Nat} (h : ∀ j, x.testBit j = (decide (j < 64) && P (64 * i + j))) : x = wd P i := Nat.eq_of_testBit_eq fun j => by rw [h, wd_bit]
theorem wd_congr {P Q : Nat → Bool} {i : Nat} (h : ∀ j, j < 64 → P (64 * i + j) = Q (64 * i + j)) : wd P i = wd Q i := wd_eq fun j => by
  rw [wd_bit]
  by_cases hj : j < 64
  · rw [h j hj]
  · simp [hj]
theorem wd_none (i : Nat) : wd (fun _ => false) i = 0 := (wd_eq fun j => by simp).symm
theorem wd_zero {P : Nat → Bool} {i : Nat} (h : wd P i = 0) {j : Nat} (hj : j < 64) : P (64 * i + j) = false := by
  have := wd_bit P i j
  rw [h] at this
  simpa [hj] using this.symm
/-- A set with one more number. -/
def addP (P : Nat → Bool) (n : Nat) : Nat → Bool := fun x => P x || decide (x = n)
theorem wd_add (P : Nat → Bool) (n : Nat) : wd P (n / 64) ||| 2 ^ (n % 64) = wd (addP P n) (n / 64) := wd_eq fun j => by
  rw [Nat.testBit_or, wd_bit, Nat.testBit_two_pow]
  unfold addP
  by_cases hj : j < 64
  · have : decide (n % 64 = j) = decide (64 * (n / 64) + j = n) := by
      by_cases e : n % 64 = j
      · rw [decide_eq_true e, decide_eq_true (by omega)]
      · rw [decide_eq_false e, decide_eq_false (by omega)]
    rw [this, decide_eq_true hj]; simp
  · have : decide (n % 64 = j) = false := decide_eq_false (by have := Nat.mod_lt n (show 0 < 64 by omega); omega)
    rw [this, decide_eq_false hj]; rfl
theorem wd_add_ne (P : Nat → Bool) {n i : Nat} (h : i ≠ n / 64) : wd (addP P n) i = wd P i := wd_congr fun j hj => by
  unfold addP
  rw [decide_eq_false (show ¬ 64 * i + j = n by omega)]; simp
theorem wd_and (P Q : Nat → Bool) (i : Nat) : wd P i &&& wd Q i = wd (fun x => P x && Q x) i := wd_eq fun j => by
  rw [Nat.testBit_and, wd_bit, wd_bit]
  cases decide (j < 64) <;> simp
theorem wd_or (P Q : Nat → Bool) (i : Nat) : wd P i ||| wd Q i = wd (fun x => P x || Q x) i := wd_eq fun j => by
  rw [Nat.testBit_or, wd_bit, wd_bit]
  cases decide (j < 64) <;> simp
theorem all_bit (x j : Nat) (h : x < 18446744073709551616) : (18446744073709551615 - x).testBit j = (decide (j < 64) && !x.testBit j) := by
  have := Nat.testBit_two_pow_sub_succ (x := x) (n := 64) h j
  rw [← this]
  congr 1
  omega
theorem wd_not (P Q : Nat → Bool) (i : Nat) : wd P i &&& (18446744073709551615 - wd Q i) = wd (fun x => P x && !Q x) i := wd_eq fun j => by
  rw [Nat.testBit_and, all_bit _ _ (wd_lt _ _), wd_bit, wd_bit]
  cases decide (j < 64) <;> simp

/-- What a number above 0 is: its lowest bit. -/
theorem ctz_bits {x : Nat} (h0 : x ≠ 0) (h : x < 18446744073709551616) : Lib.ctz 64 x < 64 ∧ x.testBit (Lib.ctz 64 x) = true ∧ (∀ j, j < Lib.ctz 64 x → x.testBit j = false) ∧ ∀ j, (x &&& (x - 1)).testBit j = (x.testBit j && decide (Lib.ctz 64 x < j)) := by
  have e : Lib.ctz 64 x = Lib.ctzFrom 64 x := by unfold Lib.ctz; rw [if_neg h0]
  obtain ⟨m, hm, hk⟩ := Lib.ctzFrom_spec 64 x (by omega) h
  rw [← e] at hm hk
  generalize Lib.ctz 64 x = k at hm hk
  have b1 : ∀ j, x.testBit j = (decide (k ≤ j) && (2 * m + 1).testBit (j - k)) := fun j => by rw [hm, Nat.testBit_two_pow_mul]
  have hx1 : x - 1 = 2 ^ (k + 1) * m + (2 ^ k - 1) := by
    have p := Nat.two_pow_pos k
    rw [hm, Nat.pow_succ, Nat.mul_add, Nat.mul_one, ← Nat.mul_assoc]
    omega
  have hlt : 2 ^ k - 1 < 2 ^ (k + 1) := by have p := Nat.two_pow_pos k; rw [Nat.pow_succ]; omega
  have b2 : ∀ j, (x - 1).testBit j = if j < k + 1 then (2 ^ k - 1).testBit j else m.testBit (j - (k + 1)) := fun j => by rw [hx1, Nat.testBit_two_pow_mul_add m hlt]
  refine ⟨hk, by rw [b1]; simp, fun j hj => by rw [b1, decide_eq_false (by omega)]; rfl, fun j => ?_⟩
  rw [Nat.testBit_and]
  by_cases q : k < j
  · have e2 : (x - 1).testBit j = x.testBit j := by
      rw [b2, if_neg (by omega), b1, decide_eq_true (show k ≤ j by omega), Bool.true_and]
      obtain ⟨i, rfl⟩ : ∃ i, j = k + 1 + i := ⟨j - (k + 1), by omega⟩
      rw [show k + 1 + i - (k + 1) = i by omega, show k + 1 + i - k = i + 1 by omega, Nat.testBit_succ]
      congr 1
      omega
    rw [e2, decide_eq_true q]; simp
  · rw [decide_eq_false q, Bool.and_false]
    by_cases e3 : j = k
    · subst e3
      rw [b2, if_pos (by omega), Nat.testBit_two_pow_sub_one]; simp
    · rw [b1, decide_eq_false (show ¬ k ≤ j by omega)]; rfl

/-- The numbers below n of a set, ascending. -/
def pick (P : Nat → Bool) : Nat → List Int
  | 0 => []
  | n + 1 => pick P n ++ (if P n then [(n : Int)] else [])
theorem pick_gap {P : Nat → Bool} {n : Nat} : ∀ {m : Nat}, n ≤ m → (∀ x, n ≤ x → x < m → P x = false) → pick P m = pick P n
  | 0, h, _ => by
    have e : n = 0 := by omega
    rw [e]
  | m + 1, h, g => by
    by_cases e : n = m + 1
    · rw [e]
    · show pick P m ++ _ = _
      rw [g m (by omega) (by omega), pick_gap (by omega) fun x a b => g x a (by omega)]; simp
theorem pick_yes {P : Nat → Bool} {n m : Nat} (h : n ≤ m) (g : ∀ x, n ≤ x → x < m → P x = false) (hp : P m = true) : pick P (m + 1) = pick P n ++ [(m : Int)] := by
  show pick P m ++ _ = _
  rw [if_pos hp, pick_gap h g]
theorem pick_len (P : Nat → Bool) : ∀ n, (pick P n).length ≤ n
  | 0 => Nat.le_refl _
  | n + 1 => by
    have := pick_len P n
    show (pick P n ++ _).length ≤ _
    rw [List.length_append]
    split <;> simp <;> omega
theorem pick_congr {P Q : Nat → Bool} : ∀ {n : Nat}, (∀ x, x < n → P x = Q x) → pick P n = pick Q n
  | 0, _ => rfl
  | n + 1, h => by
    show pick P n ++ _ = pick Q n ++ _
    rw [pick_congr fun x hx => h x (by omega), h n (by omega)]

/-- A set from a number on. -/
def fromP (P : Nat → Bool) (t : Nat) : Nat → Bool := fun x => P x && decide (t ≤ x)
theorem wd_from {P : Nat → Bool} {i : Nat} : wd (fromP P (64 * i)) i = wd P i := wd_congr fun j _ => by unfold fromP; rw [decide_eq_true (by omega)]; simp
/-- One round: the lowest number is taken out of a word. -/
theorem wd_round {P : Nat → Bool} {i t : Nat} (h1 : 64 * i ≤ t) (h : wd (fromP P t) i ≠ 0) :
    ∃ m, m < 64 ∧ Lib.ctz 64 (wd (fromP P t) i) = m ∧ t ≤ 64 * i + m ∧ pick P (64 * i + m + 1) = pick P t ++ [((64 * i + m : Nat) : Int)] ∧ wd (fromP P t) i &&& (wd (fromP P t) i - 1) = wd (fromP P (64 * i + m + 1)) i := by
  obtain ⟨a, b, c, d⟩ := ctz_bits h (wd_lt _ _)
  generalize hm : Lib.ctz 64 (wd (fromP P t) i) = m at a b c d
  rw [wd_bit, decide_eq_true a] at b
  unfold fromP at b
  simp only [Bool.true_and, Bool.and_eq_true, decide_eq_true_eq] at b
  refine ⟨m, a, rfl, b.2, pick_yes b.2 (fun x hx1 hx2 => ?_) b.1, wd_eq fun j => ?_⟩
  · have := c (x - 64 * i) (by omega)
    rw [wd_bit, decide_eq_true (show x - 64 * i < 64 by omega), show 64 * i + (x - 64 * i) = x by omega] at this
    unfold fromP at this
    rw [decide_eq_true hx1] at this
    simpa using this
  · rw [d, wd_bit]
    unfold fromP
    by_cases q : m < j
    · rw [decide_eq_true q, decide_eq_true (show t ≤ 64 * i + j by omega), decide_eq_true (show 64 * i + m + 1 ≤ 64 * i + j by omega)]; simp
    · rw [decide_eq_false q, decide_eq_false (show ¬ 64 * i + m + 1 ≤ 64 * i + j by omega)]; simp
theorem wd_end {P : Nat → Bool} {i t : Nat} (h1 : 64 * i ≤ t) (h2 : t ≤ 64 * i + 64) (h : wd (fromP P t) i = 0) : pick P (64 * i + 64) = pick P t :=
  pick_gap h2 fun x a b => by
    have := wd_zero h (j := x - 64 * i) (by omega)
    rw [show 64 * i + (x - 64 * i) = x by omega] at this
    unfold fromP at this
    rw [decide_eq_true a] at this
    simpa using this

/-- A set as seven words. -/
def wsC (P : Nat → Bool) : List Value := [.int .u64 (wd P 0), .int .u64 (wd P 1), .int .u64 (wd P 2), .int .u64 (wd P 3), .int .u64 (wd P 4), .int .u64 (wd P 5), .int .u64 (wd P 6)]
def wsV (P : Nat → Bool) : Value := .agg #[.int .u64 (wd P 0), .int .u64 (wd P 1), .int .u64 (wd P 2), .int .u64 (wd P 3), .int .u64 (wd P 4), .int .u64 (wd P 5), .int .u64 (wd P 6)]
theorem wsC_at (P : Nat → Bool) {i : Nat} (h : i < 7) : (wsC P)[i]? = some (.int .u64 (wd P i)) := by
  match i, h with
  | 0, _ => rfl
  | 1, _ => rfl
  | 2, _ => rfl
  | 3, _ => rfl
  | 4, _ => rfl
  | 5, _ => rfl
  | 6, _ => rfl
theorem wsC_ext {l : List Value} {P : Nat → Bool} (hl : l.length = 7) (h : ∀ i, i < 7 → l[i]? = some (.int .u64 (wd P i))) : l = wsC P := by
  apply List.ext_getElem?
  intro i
  by_cases q : i < 7
  · rw [h i q, wsC_at P q]
  · rw [List.getElem?_eq_none (by omega), List.getElem?_eq_none (by show 7 ≤ i; omega)]
theorem wsC_len (P : Nat → Bool) : (wsC P).length = 7 := rfl
/-- The words of a set in which one more number is laid. -/
theorem wsC_add (P : Nat → Bool) {n : Nat} (_h : n < 448) : (wsC P).set (n / 64) (.int .u64 (wd (addP P n) (n / 64))) = wsC (addP P n) :=
  wsC_ext (by rw [List.length_set]; rfl) fun i hi => by
    rw [List.getElem?_set]
    by_cases e : n / 64 = i
    · rw [if_pos e, if_pos (by rw [wsC_len]; omega), e]
    · rw [if_neg e, wsC_at P hi, wd_add_ne P (fun q => e q.symm)]
/-- The first k words of one set, and the others of another one. -/
def mixC (P Q : Nat → Bool) : Nat → List Value
  | 0 => wsC P
  | k + 1 => (mixC P Q k).set k (.int .u64 (wd Q k))
theorem mixC_len (P Q : Nat → Bool) : ∀ k, (mixC P Q k).length = 7
  | 0 => rfl
  | k + 1 => by show ((mixC P Q k).set _ _).length = 7; rw [List.length_set, mixC_len]
theorem mixC_at (P Q : Nat → Bool) : ∀ k i, i < 7 → (mixC P Q k)[i]? = some (.int .u64 (if i < k then wd Q i else wd P i))
  | 0, i, h => by rw [if_neg (by omega)]; exact wsC_at P h
  | k + 1, i, h => by
    show ((mixC P Q k).set _ _)[i]? = _
    rw [List.getElem?_set, mixC_at P Q k i h, mixC_len]
    by_cases e : k = i
    · subst e; rw [if_pos rfl, if_pos h, if_pos (by omega)]
    · rw [if_neg e]
      by_cases q : i < k
      · rw [if_pos q, if_pos (by omega)]
      · rw [if_neg q, if_neg (by omega)]
theorem mixC_all (P Q : Nat → Bool) : mixC P Q 7 = wsC Q := wsC_ext (mixC_len P Q 7) fun i hi => by rw [mixC_at P Q 7 i hi, if_pos hi]
/-- Which numbers a list holds. -/
def memP (l : List Int) : Nat → Bool := fun x => decide ((x : Int) ∈ l)
theorem mem_nil : memP [] = fun _ => false := by funext x; simp [memP]
theorem mem_snoc (l : List Int) (n : Nat) : memP (l ++ [(n : Int)]) = addP (memP l) n := by
  funext x
  unfold memP addP
  apply bool_iff
  simp only [decide_eq_true_eq, Bool.or_eq_true, List.mem_append, List.mem_singleton]
  have : ((x : Int) = (n : Int)) ↔ x = n := by omega
  rw [this]
end Go.Proofs.YtfgjogmgcamfdaaGreatDoor
