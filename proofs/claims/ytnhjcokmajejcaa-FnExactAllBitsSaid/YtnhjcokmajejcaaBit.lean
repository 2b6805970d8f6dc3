/- States as bits: plain numbers. -/
import Derived.Test.YtnhjcokmajejcaaSet
import Derived.Test.YtnhjcokmajejcaaBit0
namespace Go.Proofs.Ytnhjcokmajejcaa
open Go.RowKit

theorem inRange_ok {s : Sy} {st : List Int} (h : inRangeB s st = true) : SysOk s ∧ hasB s.vars st = true := by
  unfold inRangeB at h
  simp only [Bool.and_eq_true] at h
  exact ⟨sysOk_of h.1, h.2⟩
/-- A variable's bits. -/
def wdv (v : Vr) : Nat := wdt (v.high - v.low + 1)
/-- The bits of the first k variables. -/
def widTo (l : List Vr) : Nat → Nat
  | 0 => 0
  | k + 1 => widTo l k + wdv (el l k)
def widL (l : List Vr) : List Int := l.map fun v => (wdv v : Int)
/-- The word of the first k values. -/
def rowTo (l : List Vr) (st : List Int) : Nat → Nat
  | 0 => 0
  | k + 1 => rowTo l st k * 2 ^ wdv (el l k) + (ix st k - (el l k).low).toNat
def stBits (l : List Vr) (st : List Int) : List Int := bitsN (rowTo l st l.length) (widTo l l.length)
theorem wid_mono (l : List Vr) {k : Nat} : ∀ {n : Nat}, k ≤ n → widTo l k ≤ widTo l n := by
  intro n
  induction n with
  | zero => intro h; have e : k = 0 := by omega
            rw [e]; exact Nat.le_refl _
  | succ n ih =>
    intro h
    by_cases e : k = n + 1
    · rw [e]; exact Nat.le_refl _
    · have := ih (by omega)
      show _ ≤ widTo l n + _
      omega
theorem wid_five {l : List Vr} (hv : ∀ k, k < l.length → varB (el l k) = true) : ∀ {k : Nat}, k ≤ l.length → 5 ^ widTo l k ≤ (prodTo l k).toNat ^ 3 := by
  intro k
  induction k with
  | zero => intro _; exact Nat.le_refl 1
  | succ k ih =>
    intro hk
    have a := ih (by omega)
    have v := varB_iff.1 (hv k (by omega))
    have p0 := (prod_bd (l := l) (k := k) (allTo_true.2 fun i hi => hv i (by omega))).1
    obtain ⟨z, hz⟩ : ∃ z : Nat, (el l k).high - (el l k).low + 1 = (z : Int) := ⟨((el l k).high - (el l k).low + 1).toNat, by omega⟩
    have b := wdt_five (v := z) (by omega) (by omega)
    show 5 ^ (widTo l k + wdv (el l k)) ≤ (prodTo l k * ((el l k).high - (el l k).low + 1)).toNat ^ 3
    unfold wdv
    rw [hz, Nat.pow_add]
    obtain ⟨p, hp⟩ : ∃ p : Nat, prodTo l k = (p : Int) := ⟨(prodTo l k).toNat, by omega⟩
    rw [hp] at a ⊢
    rw [← Int.natCast_mul, Int.toNat_natCast, Nat.mul_pow]
    rw [Int.toNat_natCast] at a
    exact Nat.mul_le_mul a b
theorem wid_le {s : Sy} (ok : SysOk s) {k : Nat} (hk : k ≤ s.vars.length) : widTo s.vars k ≤ 11 := by
  have a := wid_five ok.vars (Nat.le_refl s.vars.length)
  have b := ok.size
  unfold sizeB at b
  have c := wid_mono s.vars hk
  obtain ⟨p, hp⟩ : ∃ p : Nat, (prodTo s.vars s.vars.length).toNat = p := ⟨_, rfl⟩
  rw [hp] at a
  have hp4 : p ≤ 400 := by omega
  have h3 : p ^ 3 ≤ 400 ^ 3 := Nat.pow_le_pow_left hp4 3
  by_cases q : widTo s.vars s.vars.length ≤ 11
  · omega
  · have h5 : 5 ^ 12 ≤ 5 ^ widTo s.vars s.vars.length := Nat.pow_le_pow_right (by omega) (by omega)
    have : (5 : Nat) ^ 12 ≤ 400 ^ 3 := Nat.le_trans h5 (Nat.le_trans a h3)
    exact absurd this (by decide)
theorem val_lt {l : List Vr} {st : List Int} (hv : ∀ k, k < l.length → varB (el l k) = true) (h : hasB l st = true) {k : Nat} (hk : k < l.length) : (ix st k - (el l k).low).toNat < 2 ^ wdv (el l k) := by
  have v := varB_iff.1 (hv k hk)
  have c := has_at h k hk
  exact wdt_lt (v := (el l k).high - (el l k).low + 1) (by omega) (by omega)
theorem row_lt {l : List Vr} {st : List Int} (hv : ∀ k, k < l.length → varB (el l k) = true) (h : hasB l st = true) : ∀ {k : Nat}, k ≤ l.length → rowTo l st k < 2 ^ widTo l k := by
  intro k
  induction k with
  | zero => intro _; exact Nat.lt_of_lt_of_le Nat.zero_lt_one (Nat.le_refl 1)
  | succ k ih =>
    intro hk
    have a := ih (by omega)
    have b := val_lt hv h (k := k) (by omega)
    show rowTo l st k * 2 ^ wdv (el l k) + _ < 2 ^ (widTo l k + wdv (el l k))
    rw [Nat.pow_add]
    generalize 2 ^ wdv (el l k) = p at *
    generalize 2 ^ widTo l k = q at *
    have : (rowTo l st k + 1) * p ≤ q * p := Nat.mul_le_mul_right p a
    rw [Nat.add_mul] at this
    omega
theorem stBits_succ {l : List Vr} {st : List Int} (hv : ∀ k, k < l.length → varB (el l k) = true) (h : hasB l st = true) {k : Nat} (hk : k < l.length) :
    bitsN (rowTo l st (k + 1)) (widTo l (k + 1)) = bitsN (rowTo l st k) (widTo l k) ++ bitsN (ix st k - (el l k).low).toNat (wdv (el l k)) := bitsN_app (val_lt hv h hk)
def bitsOfB (s : Sy) : List Int := if sysB s then widL s.vars else []
theorem bitsOfB_len (s : Sy) : (bitsOfB s).length ≤ 1000000 := by
  unfold bitsOfB
  cases hz : sysB s
  · simp
  · have := (sysOk_of hz).hi
    simp [widL]; omega
def stateBitsB (s : Sy) (st : List Int) : List Int := if inRangeB s st then stBits s.vars st else []
theorem stateBitsB_len (s : Sy) (st : List Int) : (stateBitsB s st).length ≤ 1000000 := by
  unfold stateBitsB
  cases hz : inRangeB s st
  · simp
  · have := wid_le (inRange_ok hz).1 (Nat.le_refl _)
    rw [if_pos rfl, stBits, bitsN_len]; omega

/-- The state that bits are. -/
def unpAt (l : List Vr) (B : List Int) (i : Nat) : Int := (el l i).low + (numN (B.drop (widTo l i)) (wdv (el l i)) : Int)
def unpL (l : List Vr) (B : List Int) : List Int := (List.range l.length).map (unpAt l B)
theorem unpL_len (l : List Vr) (B : List Int) : (unpL l B).length = l.length := by unfold unpL; simp
theorem unpL_ix {l : List Vr} {B : List Int} {i : Nat} (h : i < l.length) : ix (unpL l B) i = unpAt l B i := by
  unfold ix unpL
  rw [List.getElem?_map, List.getElem?_range h]; rfl
theorem unpL_take {l : List Vr} {B : List Int} {k : Nat} (h : k < l.length) : (unpL l B).take (k + 1) = (unpL l B).take k ++ [unpAt l B k] := by
  have e : (unpL l B)[k]? = some (unpAt l B k) := by unfold unpL; rw [List.getElem?_map, List.getElem?_range h]; rfl
  rw [List.take_add_one, e]; rfl
def bitsStateB (s : Sy) (B : List Int) : List Int :=
  if sysB s && (areB B && (decide (B.length = widTo s.vars s.vars.length) && hasB s.vars (unpL s.vars B))) then unpL s.vars B else []
theorem bitsStateB_len (s : Sy) (B : List Int) : (bitsStateB s B).length ≤ 1000000 := by
  unfold bitsStateB
  cases hz : sysB s
  · simp
  · have := (sysOk_of hz).hi
    split
    · rw [unpL_len]; omega
    · simp
/-- The bits of all states of a set. -/
def allBitsB (s : Sy) (l : List Int) : List (List Int) := if setB s l then l.map fun n => stBits s.vars (stL s.vars n) else []

def apartB (s : Sy) (a b : List Int) : Int := if inRangeB s a && hasB s.vars b then (difTo (stBits s.vars a) (stBits s.vars b) (widTo s.vars s.vars.length) : Int) else -1
/-- The state with the last m values laid. -/
def unpTo (l : List Vr) (B : List Int) (m : Nat) : List Int := (List.range l.length).map fun i => if l.length - m ≤ i then unpAt l B i else 0
theorem unpTo_len (l : List Vr) (B : List Int) (m : Nat) : (unpTo l B m).length = l.length := by unfold unpTo; simp
theorem unpTo_zero (l : List Vr) (B : List Int) : unpTo l B 0 = List.replicate l.length 0 := by
  unfold unpTo
  apply List.ext_getElem?
  intro i
  by_cases h : i < l.length
  · rw [List.getElem?_map, List.getElem?_range h, List.getElem?_replicate, if_pos h]
    show some (if l.length - 0 ≤ i then unpAt l B i else 0) = some 0
    rw [if_neg (by omega)]
  · rw [List.getElem?_eq_none (by simp; omega), List.getElem?_eq_none (by simp; omega)]
theorem unpTo_all (l : List Vr) (B : List Int) : unpTo l B l.length = unpL l B := by
  unfold unpTo unpL
  apply List.map_congr_left
  intro i _
  rw [if_pos (by omega)]
theorem unpTo_succ {l : List Vr} (B : List Int) {m j : Nat} (h : j + m + 1 = l.length) : (unpTo l B m).set j (unpAt l B j) = unpTo l B (m + 1) := by
  apply List.ext_getElem?
  intro i
  by_cases hi : i < l.length
  · have e1 : ∀ m, (unpTo l B m)[i]? = some (if l.length - m ≤ i then unpAt l B i else 0) := fun m => by
      unfold unpTo; rw [List.getElem?_map, List.getElem?_range hi]; rfl
    rw [List.getElem?_set, e1, e1, unpTo_len]
    by_cases q : j = i
    · subst q
      rw [if_pos rfl, if_pos (by omega), if_pos (by omega)]
    · rw [if_neg q]
      by_cases c : l.length - m ≤ i
      · rw [if_pos c, if_pos (by omega)]
      · rw [if_neg c, if_neg (by omega)]
  · rw [List.getElem?_eq_none (by rw [List.length_set, unpTo_len]; omega), List.getElem?_eq_none (by rw [unpTo_len]; omega)]
end Go.Proofs.Ytnhjcokmajejcaa
