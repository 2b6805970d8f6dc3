/- Orders of variables (plain). -/
import Derived.Test.YtnhjcokmajejcaaDoorKinds
namespace Go.Proofs.YtnhjcokmajejcaaDoor
open Go.RowKit

theorem cov_len : ∀ (n : Nat) (l : List Int), (∀ v : Nat, v < n → (v : Int) ∈ l) → n ≤ l.length
  | 0, _, _ => Nat.zero_le _
  | n + 1, l, h => by
    have hm : (n : Int) ∈ l := h n (Nat.lt_succ_self n)
    have := cov_len n (l.erase (n : Int)) fun v hv => (List.mem_erase_of_ne (by omega)).2 (h v (by omega))
    rw [List.length_erase_of_mem hm] at this
    have := List.length_pos_of_mem hm
    omega
theorem inj_len : ∀ (n : Nat) (l : List Int), l.Nodup → (∀ x ∈ l, 0 ≤ x ∧ x < n) → l.length ≤ n
  | 0, l, _, h => by
    cases l with
    | nil => exact Nat.le_refl _
    | cons x l => have := h x (by simp); omega
  | n + 1, l, hd, h => by
    have := inj_len n (l.erase (n : Int)) (hd.erase _) fun x hx => by
      have h1 := (hd.mem_erase_iff).1 hx
      have := h x h1.2
      have := h1.1
      omega
    by_cases hm : (n : Int) ∈ l
    · rw [List.length_erase_of_mem hm] at this; omega
    · rw [List.erase_of_not_mem hm] at this; omega
/-- Whether numbers are an order of so many variables. -/
def ordB (l : List Int) (vars : Int) : Bool := decide ((l.length : Int) = vars) && (decide (vars ≤ 12) && (List.range l.length).all fun (v : Nat) => decide ((v : Int) ∈ l))
theorem ordB_len {l : List Int} {vars : Int} (h : (l.length : Int) ≠ vars) : ordB l vars = false := by unfold ordB; rw [decide_eq_false h]; rfl
theorem ordB_far {l : List Int} {vars : Int} (h : ¬ vars ≤ 12) : ordB l vars = false := by unfold ordB; rw [decide_eq_false h]; simp
theorem ordB_iff {l : List Int} {vars : Int} : ordB l vars = true ↔ (l.length : Int) = vars ∧ vars ≤ 12 ∧ ∀ v : Nat, v < l.length → (v : Int) ∈ l := by
  unfold ordB
  rw [Bool.and_eq_true, Bool.and_eq_true, List.all_eq_true]
  simp
theorem ordB_miss {l : List Int} {vars : Int} {v : Nat} (hv : v < l.length) (h : decide ((v : Int) ∈ l) = false) : ordB l vars = false := by
  cases q : ordB l vars with
  | false => rfl
  | true => exact absurd ((ordB_iff.1 q).2.2 v hv) (of_decide_eq_false h)
theorem mem_takeI {l : List Int} {k : Nat} {x : Int} : x ∈ l.take k ↔ ∃ j, j < k ∧ j < l.length ∧ ix l j = x := by
  constructor
  · intro h
    obtain ⟨j, hj, e⟩ := List.getElem_of_mem h
    rw [List.length_take] at hj
    rw [List.getElem_take] at e
    exact ⟨j, by omega, by omega, by rw [ix_lt (by omega)]; exact e⟩
  · rintro ⟨j, h1, h2, rfl⟩
    rw [ix_lt h2]
    exact List.mem_take_iff_getElem.2 ⟨j, by omega, rfl⟩
/-- A number that is none, or stands there twice: no order. -/
theorem ordB_no {l : List Int} {vars : Int} {k : Nat} (hk : k < l.length) (h : ix l k < 0 ∨ vars ≤ ix l k ∨ ix l k ∈ l.take k) : ordB l vars = false := by
  cases q : ordB l vars with
  | false => rfl
  | true =>
    obtain ⟨e, _, c⟩ := ordB_iff.1 q
    have := cov_len l.length (l.eraseIdx k) fun v hv => by
      obtain ⟨j, hj, ej⟩ := List.getElem_of_mem (c v hv)
      by_cases hjk : j = k
      · subst hjk
        rw [← ix_lt hj] at ej
        rcases h with h | h | h
        · omega
        · omega
        · obtain ⟨i, h1, h2, h3⟩ := mem_takeI.1 h
          refine List.mem_eraseIdx_iff_getElem.2 ⟨i, h2, by omega, ?_⟩
          rw [← ej, ← h3, ix_lt h2]
      · exact List.mem_eraseIdx_iff_getElem.2 ⟨j, hj, by omega, ej⟩
    rw [List.length_eraseIdx_of_lt hk] at this
    omega
theorem ordB_yes {l : List Int} {vars : Int} (e : (l.length : Int) = vars) (h12 : vars ≤ 12) (h : ∀ k, k < l.length → 0 ≤ ix l k ∧ ix l k < vars ∧ ix l k ∉ l.take k) : ordB l vars = true := by
  refine ordB_iff.2 ⟨e, h12, fun v hv => ?_⟩
  refine Classical.byContradiction fun hm => ?_
  have nd : l.Nodup := by
    rw [List.nodup_iff_pairwise_ne, List.pairwise_iff_getElem]
    intro i j hi hj hij e
    exact (h j hj).2.2 (mem_takeI.2 ⟨i, hij, hi, by rw [ix_lt hi, ix_lt hj]; exact e⟩)
  have := inj_len l.length ((v : Int) :: l) (List.nodup_cons.2 ⟨hm, nd⟩) fun x hx => by
    rcases List.mem_cons.1 hx with rfl | hx
    · omega
    · obtain ⟨j, hj, rfl⟩ := List.getElem_of_mem hx
      have := h j hj
      rw [ix_lt hj] at this
      omega
  rw [List.length_cons] at this
  omega
/-- In an order each number stands once. -/
theorem ord_once {l : List Int} {vars : Int} (h : ordB l vars = true) {i j : Nat} (hi : i < l.length) (hj : j < l.length) (e : ix l i = ix l j) : i = j := by
  have key : ∀ i j, i < j → j < l.length → ix l i = ix l j → False := fun i j hij hj e => by
    have := ordB_no (vars := vars) hj (.inr (.inr (mem_takeI.2 ⟨i, hij, by omega, e⟩)))
    rw [h] at this; cases this
  rcases Nat.lt_trichotomy i j with q | q | q
  · exact (key i j q hj e).elim
  · exact q
  · exact (key j i q hi e.symm).elim
theorem ord_in {l : List Int} {vars : Int} (h : ordB l vars = true) {k : Nat} (hk : k < l.length) : 0 ≤ ix l k ∧ ix l k < l.length := by
  have e := (ordB_iff.1 h).1
  refine ⟨Int.not_lt.1 fun q => ?_, Int.not_le.1 fun q => ?_⟩
  · have := ordB_no (vars := vars) hk (.inl q); rw [h] at this; cases this
  · have := ordB_no (vars := vars) hk (.inr (.inl (by omega))); rw [h] at this; cases this
/-- Where a number stands in a list; its length, if it doesn't. -/
def atI (l : List Int) (v : Nat) : Nat → Nat
  | 0 => 0
  | k + 1 => if ix l k = v then k else atI l v k
theorem atI_hit {l : List Int} {v : Nat} : ∀ {m k : Nat}, k < m → ix l k = v → (∀ j, j < m → ix l j = v → j = k) → atI l v m = k
  | 0, k, h, _, _ => by omega
  | m + 1, k, h, e, u => by
    unfold atI
    by_cases q : ix l m = v
    · rw [if_pos q]; exact u m (by omega) q
    · rw [if_neg q]
      have : k ≠ m := fun z => q (z ▸ e)
      exact atI_hit (by omega) e fun j hj => u j (by omega)
/-- The order the other way. -/
def backTo (l : List Int) (m : Nat) : List Int := (List.range m).map fun v => ((atI l v l.length : Nat) : Int)
def backB (l : List Int) : List Int := if ordB l l.length = true then backTo l l.length else []
theorem backTo_len (l : List Int) (m : Nat) : (backTo l m).length = m := by simp [backTo]
theorem backB_len (l : List Int) : (backB l).length ≤ 1000000 := by
  unfold backB
  split
  · rename_i h
    have := (ordB_iff.1 h).2.1
    rw [backTo_len]; omega
  · exact Nat.zero_le _
theorem backTo_succ (l : List Int) (m : Nat) : backTo l (m + 1) = backTo l m ++ [((atI l m l.length : Nat) : Int)] := by simp [backTo, List.range_succ]
/-- Where the first k of an order stand, the others at 0. -/
def backAt (l : List Int) (k : Nat) : List Int := (List.range l.length).map fun (v : Nat) => if (v : Int) ∈ l.take k then ((atI l v l.length : Nat) : Int) else 0
theorem backAt_len (l : List Int) (k : Nat) : (backAt l k).length = l.length := by simp [backAt]
theorem backAt_at (l : List Int) (k : Nat) {i : Nat} (hi : i < (backAt l k).length) : (backAt l k)[i] = if (i : Int) ∈ l.take k then ((atI l i l.length : Nat) : Int) else 0 := by
  simp [backAt]
theorem backAt_zero (l : List Int) : backAt l 0 = List.replicate l.length 0 := by
  refine List.ext_getElem (by simp [backAt]) fun i h1 h2 => ?_
  simp [backAt]
theorem backAt_all {l : List Int} (h : ordB l l.length = true) : backAt l l.length = backTo l l.length := by
  unfold backAt backTo
  rw [List.take_length]
  refine List.map_congr_left fun v hv => ?_
  rw [if_pos ((ordB_iff.1 h).2.2 v (List.mem_range.1 hv))]
theorem backAt_set {l : List Int} (h : ordB l l.length = true) {k : Nat} (hk : k < l.length) {x : Nat} (e : ix l k = x) : (backAt l k).set x (k : Int) = backAt l (k + 1) := by
  have hx : x < l.length := by have := ord_in h hk; omega
  refine List.ext_getElem (by rw [List.length_set, backAt_len, backAt_len]) fun i h1 h2 => ?_
  rw [List.getElem_set]
  have hi : i < l.length := by rw [backAt_len] at h2; exact h2
  by_cases q : x = i
  · subst q
    rw [if_pos rfl, backAt_at, if_pos (mem_takeI.2 ⟨k, by omega, hk, e⟩)]
    rw [atI_hit hk e fun j hj ej => ord_once h hj hk (by rw [ej, e])]
  · rw [if_neg q, backAt_at, backAt_at]
    have : ((i : Int) ∈ l.take k) ↔ ((i : Int) ∈ l.take (k + 1)) := by
      constructor
      · intro hm
        obtain ⟨j, h1, h2, h3⟩ := mem_takeI.1 hm
        exact mem_takeI.2 ⟨j, by omega, h2, h3⟩
      · intro hm
        obtain ⟨j, h1, h2, h3⟩ := mem_takeI.1 hm
        refine mem_takeI.2 ⟨j, ?_, h2, h3⟩
        have : j ≠ k := fun z => by subst z; omega
        omega
    by_cases z : (i : Int) ∈ l.take k
    · rw [if_pos z, if_pos (this.1 z)]
    · rw [if_neg z, if_neg (fun y => z (this.2 y))]
end Go.Proofs.YtnhjcokmajejcaaDoor
