/- Circuits: what holds of them, and their values (plain). -/
import Derived.Test.YthlkbkomecnbaaaCi
namespace Go.Proofs.Ythlkbkomecnbaaa
open Go.RowKit

/-- The k-th gate's edges lie ahead of its node. -/
def okG (m : Int) (k : Nat) (g : Ga) : Prop := 0 ≤ g.a ∧ g.a < 2 * (1 + m + k) ∧ 0 ≤ g.b ∧ g.b < 2 * (1 + m + k)
/-- A circuit that is one. -/
structure Ci.Ok (c : Ci) : Prop where
  lo : 0 ≤ c.ins
  hi : c.ins ≤ 12
  few : c.gates.length ≤ 600
  gate : ∀ k, k < c.gates.length → okG c.ins k (el c.gates k)
noncomputable def ckB (c : Ci) : Bool := @decide c.Ok (Classical.propDecidable _)
theorem ckB_yes {c : Ci} (h : c.Ok) : ckB c = true := by unfold ckB; exact @decide_eq_true _ (Classical.propDecidable _) h
theorem ckB_no {c : Ci} (h : ¬ c.Ok) : ckB c = false := by unfold ckB; exact @decide_eq_false _ (Classical.propDecidable _) h
theorem ckB_iff {c : Ci} : ckB c = true ↔ c.Ok := by
  by_cases h : c.Ok
  · simp [ckB_yes h, h]
  · simp [ckB_no h, h]
/-- How many nodes. -/
def Ci.nodes (c : Ci) : Int := 1 + c.ins + c.gates.length
/-- An edge of a circuit. -/
def isE (c : Ci) (e : Int) : Bool := decide (0 ≤ e ∧ e < 2 * c.nodes)
theorem isE_iff {c : Ci} {e : Int} : isE c e = true ↔ 0 ≤ e ∧ e < 2 * c.nodes := by unfold isE; simp
/-- All of these are edges. -/
def areE (c : Ci) (l : List Int) : Bool := l.all (isE c)

/-- The value of an edge. -/
def ofB (L : List Bool) (e : Int) : Bool := el L (e / 2).toNat ^^ decide (e % 2 = 1)
/-- The values of the nodes up to the k-th gate. -/
def valTo (l : List Ga) (base : List Bool) : Nat → List Bool
  | 0 => base
  | k + 1 => valTo l base k ++ [ofB (valTo l base k) (el l k).a && ofB (valTo l base k) (el l k).b]
theorem valTo_len (l : List Ga) (base : List Bool) : ∀ k, (valTo l base k).length = base.length + k
  | 0 => rfl
  | k + 1 => by unfold valTo; rw [List.length_append, valTo_len l base k]; simp; omega
def bi (b : Bool) : Int := if b then 1 else 0
def biL (L : List Bool) : List Int := L.map bi
def boL (l : List Int) : List Bool := l.map fun x => decide (x = 1)
theorem biL_len (L : List Bool) : (biL L).length = L.length := by simp [biL]
theorem boL_len (L : List Int) : (boL L).length = L.length := by simp [boL]
theorem bi_range (b : Bool) : 0 ≤ bi b ∧ bi b ≤ 1 := by cases b <;> decide
theorem ix_biL {L : List Bool} {k : Nat} (h : k < L.length) : ix (biL L) k = bi (el L k) := by
  rw [ix_lt (by rw [biL_len]; exact h), el_lt h]; simp [biL]
/-- All are bits. -/
def arB (l : List Int) : Bool := l.all fun x => decide (x = 0) || decide (x = 1)
theorem arB_at {l : List Int} (h : arB l = true) {k : Nat} (hk : k < l.length) : ix l k = 0 ∨ ix l k = 1 := by
  rw [ix_lt hk]
  have := List.all_eq_true.1 h _ (List.getElem_mem hk)
  simpa using this
theorem ix_boL {l : List Int} {k : Nat} (hk : k < l.length) : el (boL l) k = decide (ix l k = 1) := by
  rw [el_lt (by rw [boL_len]; exact hk), ix_lt hk]; simp [boL]
theorem biL_boL {l : List Int} (h : arB l = true) : biL (boL l) = l := by
  unfold biL boL
  rw [List.map_map]
  refine (List.map_congr_left fun x hx => ?_).trans (List.map_id _)
  have := List.all_eq_true.1 h x hx
  simp only [Bool.or_eq_true, decide_eq_true_eq] at this
  rcases this with rfl | rfl <;> rfl
theorem bi_and (a b : Bool) : bi (a && b) = bi a * bi b := by cases a <;> cases b <;> rfl
theorem bi_not (a : Bool) : 1 - bi a = bi (a ^^ true) := by cases a <;> rfl
/-- The values of all nodes, or nothing. -/
noncomputable def valsB (c : Ci) (bits : List Int) : List Int :=
  if ckB c = true ∧ (bits.length : Int) = c.ins ∧ arB bits = true then biL (valTo c.gates (false :: boL bits) c.gates.length) else []
/-- The value of an edge, or -1. -/
noncomputable def edgeB (c : Ci) (bits : List Int) (e : Int) : Int :=
  if ckB c = true ∧ (bits.length : Int) = c.ins ∧ arB bits = true ∧ isE c e = true then bi (ofB (valTo c.gates (false :: boL bits) c.gates.length) e) else -1
theorem valsB_len (c : Ci) (bits : List Int) : (valsB c bits).length ≤ 1000000 := by
  unfold valsB
  split
  · rename_i h
    obtain ⟨h1, h2, h3⟩ := h
    have := (ckB_iff.1 h1).few
    have := (ckB_iff.1 h1).hi
    rw [biL_len, valTo_len, List.length_cons, boL_len]
    omega
  · simp

/-! ### Words of 64 rows -/
def fwN (P : Nat → Bool) : Nat → Nat
  | 0 => 0
  | n + 1 => fwN P n + (if P n then 2 ^ n else 0)
theorem fwN_lt (P : Nat → Bool) : ∀ n, fwN P n < 2 ^ n
  | 0 => by simp [fwN]
  | n + 1 => by
    have := fwN_lt P n
    show fwN P n + _ < _
    rw [Nat.pow_succ]
    split <;> omega
theorem fwN_bit (P : Nat → Bool) : ∀ n j, (fwN P n).testBit j = (decide (j < n) && P j)
  | 0, j => by simp [fwN]
  | n + 1, j => by
    have h := fwN_lt P n
    have ih := fwN_bit P n j
    show (fwN P n + _).testBit j = _
    by_cases hp : P n = true
    · rw [if_pos hp, Nat.add_comm, ← Nat.mul_one (2 ^ n), Nat.testBit_two_pow_mul_add 1 h]
      by_cases hj : j < n
      · rw [if_pos hj, ih, decide_eq_true hj, decide_eq_true (show j < n + 1 by omega)]
      · rw [if_neg hj]
        by_cases e : j = n
        · subst e; simp [hp]
        · have : (1 : Nat).testBit (j - n) = false := by
            obtain ⟨i, hi⟩ : ∃ i, j - n = i + 1 := ⟨j - n - 1, by omega⟩
            rw [hi, Nat.testBit_succ]; simp
          rw [this, decide_eq_false (show ¬ j < n + 1 by omega)]; rfl
    · rw [if_neg hp, Nat.add_zero, ih]
      by_cases hj : j < n
      · rw [decide_eq_true hj, decide_eq_true (show j < n + 1 by omega)]
      · by_cases e : j = n
        · subst e
          have : P j = false := by simpa using hp
          simp [this]
        · rw [decide_eq_false hj, decide_eq_false (show ¬ j < n + 1 by omega)]
/-- The word of 64 rows. -/
def fw (P : Nat → Bool) : Nat := fwN P 64
theorem fw_lt (P : Nat → Bool) : fw P < 18446744073709551616 := fwN_lt P 64
theorem fw_bit (P : Nat → Bool) (j : Nat) : (fw P).testBit j = (decide (j < 64) && P j) := fwN_bit P 64 j
theorem fw_eq {P : Nat → Bool} {x : Nat} (h : ∀ j, x.testBit j = (decide (j < 64) && P j)) : x = fw P := Nat.eq_of_testBit_eq fun j => by rw [h, fw_bit]
theorem fw_and (P Q : Nat → Bool) : fw P &&& fw Q = fw (fun j => P j && Q j) := fw_eq fun j => by
  rw [Nat.testBit_and, fw_bit, fw_bit]
  cases decide (j < 64) <;> simp
theorem fw_xor (P Q : Nat → Bool) : fw P ^^^ fw Q = fw (fun j => P j ^^ Q j) := fw_eq fun j => by
  rw [Nat.testBit_xor, fw_bit, fw_bit]
  cases decide (j < 64) <;> simp
theorem fw_none : fw (fun _ => false) = 0 := (fw_eq fun j => by simp).symm
theorem fw_all : fw (fun _ => true) = 18446744073709551615 := by decide
theorem fw_one (P : Nat → Bool) : fw P &&& 1 = (if P 0 then 1 else 0) := by
  rw [Nat.and_one_is_mod]
  have := fw_bit P 0
  simp [Nat.testBit_zero] at this
  split
  · simp_all
  · simp_all
theorem fw_inj {P Q : Nat → Bool} (h : fw P = fw Q) {j : Nat} (hj : j < 64) : P j = Q j := by
  have h1 := fw_bit P j
  have h2 := fw_bit Q j
  rw [h] at h1
  rw [h1] at h2
  simpa [hj] using h2
theorem fw_congr {P Q : Nat → Bool} (h : ∀ j, j < 64 → P j = Q j) : fw P = fw Q := fw_eq fun j => by
  rw [fw_bit]
  by_cases hj : j < 64
  · rw [h j hj]
  · simp [hj]
/-- The values in row j of the columns C. -/
def rowOfC (C : List (Nat → Bool)) (j : Nat) : List Bool := false :: C.map fun P => P j
theorem rowOfC_len (C : List (Nat → Bool)) (j : Nat) : (rowOfC C j).length = 1 + C.length := by simp [rowOfC]; omega
/-- The word of the x-th node. -/
def nodeW (l : List Ga) (C : List (Nat → Bool)) (k x : Nat) : Nat := fw fun j => el (valTo l (rowOfC C j) k) x
def wsTo (l : List Ga) (C : List (Nat → Bool)) (k : Nat) : List Nat := (List.range (1 + C.length + k)).map (nodeW l C k)
def edgeW (l : List Ga) (C : List (Nat → Bool)) (k : Nat) (e : Int) : Nat := fw fun j => ofB (valTo l (rowOfC C j) k) e
theorem wsTo_len (l : List Ga) (C : List (Nat → Bool)) (k : Nat) : (wsTo l C k).length = 1 + C.length + k := by simp [wsTo]
theorem wsTo_at (l : List Ga) (C : List (Nat → Bool)) {k x : Nat} (h : x < 1 + C.length + k) : el (wsTo l C k) x = nodeW l C k x := by
  rw [el_lt (by rw [wsTo_len]; exact h)]; simp [wsTo]
theorem wsTo_zero (l : List Ga) (C : List (Nat → Bool)) : wsTo l C 0 = 0 :: C.map fw := by
  refine List.ext_getElem (by rw [wsTo_len]; simp; omega) fun i h1 h2 => ?_
  rw [wsTo_len] at h1
  rw [← el_lt (l := wsTo l C 0) (by rw [wsTo_len]; exact h1), wsTo_at l C h1]
  unfold nodeW
  cases i with
  | zero => simp [valTo, rowOfC, el, fw_none]
  | succ i =>
    have hi : i < C.length := by omega
    simp [valTo, rowOfC, el, List.getElem?_eq_getElem hi]
theorem wsTo_succ (l : List Ga) (C : List (Nat → Bool)) (k : Nat) : wsTo l C (k + 1) = wsTo l C k ++ [edgeW l C k (el l k).a &&& edgeW l C k (el l k).b] := by
  unfold wsTo
  rw [show 1 + C.length + (k + 1) = 1 + C.length + k + 1 by omega, List.range_succ, List.map_append]
  congr 1
  · refine List.map_congr_left fun x hx => ?_
    have hx := List.mem_range.1 hx
    unfold nodeW
    refine fw_congr fun j _ => ?_
    show el (valTo l (rowOfC C j) k ++ _) x = _
    unfold el
    rw [List.getElem?_append_left (by rw [valTo_len, rowOfC_len]; exact hx)]
  · unfold edgeW
    rw [fw_and]
    simp only [List.map_cons, List.map_nil, nodeW]
    congr 1
    refine fw_congr fun j _ => ?_
    show el (valTo l (rowOfC C j) k ++ _) _ = _
    unfold el
    rw [List.getElem?_append_right (by rw [valTo_len, rowOfC_len]; omega), valTo_len, rowOfC_len]
    simp
theorem edgeW_at (l : List Ga) (C : List (Nat → Bool)) (k : Nat) (e : Int) : edgeW l C k e = nodeW l C k (e / 2).toNat ^^^ fw (fun _ => decide (e % 2 = 1)) := by
  unfold nodeW edgeW
  rw [fw_xor]
  rfl
end Go.Proofs.Ythlkbkomecnbaaa
