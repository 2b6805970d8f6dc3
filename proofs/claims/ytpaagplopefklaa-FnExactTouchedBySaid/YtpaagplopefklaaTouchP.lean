/- The variables that a rule touches: plain lists. -/
import Derived.Test.YtpaagplopefklaaPt
import Derived.Test.YtpaagplopefklaaUse
import Derived.Lib.SlicesCompact
import Derived.Lib.RowBridge
namespace Go.Proofs.Ytpaagplopefklaa
open Go.RowKit

theorem asc_ext : ∀ {a b : List Int}, a.Pairwise (· < ·) → b.Pairwise (· < ·) → (∀ x, x ∈ a ↔ x ∈ b) → a = b
  | [], [], _, _, _ => rfl
  | [], y :: b, _, _, h => absurd ((h y).2 (by simp)) (by simp)
  | x :: a, [], _, _, h => absurd ((h x).1 (by simp)) (by simp)
  | x :: a, y :: b, ha, hb, h => by
    rw [List.pairwise_cons] at ha hb
    have e : x = y := by
      have h1 := (h x).1 (by simp)
      have h2 := (h y).2 (by simp)
      rcases List.mem_cons.1 h1 with e | m1
      · exact e
      · rcases List.mem_cons.1 h2 with e | m2
        · exact e.symm
        · have := ha.1 y m2; have := hb.1 x m1; omega
    subst e
    rw [asc_ext ha.2 hb.2 fun z => ?_]
    constructor
    · intro hz
      rcases List.mem_cons.1 ((h z).1 (by simp [hz])) with e | m
      · have := ha.1 z hz; omega
      · exact m
    · intro hz
      rcases List.mem_cons.1 ((h z).2 (by simp [hz])) with e | m
      · have := hb.1 z hz; omega
      · exact m

theorem compact_asc {zs : List Int} (hs : ∀ i j, i ≤ j → j < zs.length → zs.toArray[i]! ≤ zs.toArray[j]!) : ∀ m, m ≤ zs.length →
    (Lib.compactUpTo zs.toArray m).Pairwise (· < ·) ∧ ∀ x, x ∈ Lib.compactUpTo zs.toArray m ↔ ∃ j, j < m ∧ zs.toArray[j]! = x
  | 0, _ => ⟨by simp [Lib.compactUpTo], by simp [Lib.compactUpTo]⟩
  | m + 1, hm => by
    obtain ⟨h1, h2⟩ := compact_asc hs m (by omega)
    rw [Lib.compactUpTo_succ]
    by_cases k : Lib.keeps zs.toArray m = true
    · rw [if_pos k]
      constructor
      · rw [List.pairwise_append]
        refine ⟨h1, by simp, fun x hx y hy => ?_⟩
        obtain ⟨j, hj, rfl⟩ := (h2 x).1 hx
        rw [List.mem_singleton] at hy
        subst hy
        have a := hs j (m - 1) (by omega) (by omega)
        have b := hs (m - 1) m (by omega) (by omega)
        have c : zs.toArray[m]! ≠ zs.toArray[m - 1]! := by
          unfold Lib.keeps at k
          rw [decide_eq_true_eq] at k
          rcases k with k | k
          · omega
          · exact k
        omega
      · intro x
        rw [List.mem_append, h2 x, List.mem_singleton]
        constructor
        · rintro (⟨j, hj, e⟩ | e)
          · exact ⟨j, by omega, e⟩
          · exact ⟨m, by omega, e.symm⟩
        · rintro ⟨j, hj, e⟩
          by_cases q : j = m
          · subst q; exact .inr e.symm
          · exact .inl ⟨j, by omega, e⟩
    · rw [if_neg k, List.append_nil]
      refine ⟨h1, fun x => ?_⟩
      rw [h2 x]
      have c : m ≠ 0 ∧ zs.toArray[m]! = zs.toArray[m - 1]! := by
        unfold Lib.keeps at k
        rw [decide_eq_true_eq] at k
        exact ⟨fun e => k (.inl e), Decidable.byContradiction fun e => k (.inr e)⟩
      constructor
      · rintro ⟨j, hj, e⟩; exact ⟨j, by omega, e⟩
      · rintro ⟨j, hj, e⟩
        by_cases q : j = m
        · subst q; exact ⟨j - 1, by omega, by rw [← c.2]; exact e⟩
        · exact ⟨j, by omega, e⟩
theorem arr_get {zs : List Int} {i : Nat} (h : i < zs.length) : zs.toArray[i]! = zs[i] := by simp [h]
theorem sort_asc (L : List Int) : ∀ i j, i ≤ j → j < (L.mergeSort fun x y => decide (x ≤ y)).length → (L.mergeSort fun x y => decide (x ≤ y)).toArray[i]! ≤ (L.mergeSort fun x y => decide (x ≤ y)).toArray[j]! := by
  intro i j hij hj
  have hp : (L.mergeSort fun x y => decide (x ≤ y)).Pairwise fun a b => decide (a ≤ b) = true :=
    List.pairwise_mergeSort (fun a b c h1 h2 => by rw [decide_eq_true_eq] at *; omega) (fun a b => by simp; omega) L
  rw [arr_get (by omega), arr_get hj]
  by_cases e : i = j
  · subst e; exact Int.le_refl _
  · have := List.pairwise_iff_getElem.1 hp i j (by omega) hj (by omega)
    rw [decide_eq_true_eq] at this; exact this
/-- The numbers below n that are in a list. -/
def below (L : List Int) : Nat → List Int
  | 0 => []
  | v + 1 => if decide ((v : Int) ∈ L) = true then below L v ++ [(v : Int)] else below L v
theorem below_asc (L : List Int) : ∀ n, (below L n).Pairwise (· < ·) ∧ ∀ x, x ∈ below L n ↔ x ∈ L ∧ 0 ≤ x ∧ x < n
  | 0 => ⟨by simp [below], fun x => by simp [below] <;> omega⟩
  | n + 1 => by
    obtain ⟨h1, h2⟩ := below_asc L n
    unfold below
    by_cases k : decide ((n : Int) ∈ L) = true
    · rw [if_pos k]
      rw [decide_eq_true_eq] at k
      refine ⟨?_, fun x => ?_⟩
      · rw [List.pairwise_append]
        refine ⟨h1, by simp, fun x hx y hy => ?_⟩
        rw [List.mem_singleton] at hy
        have := (h2 x).1 hx
        omega
      · rw [List.mem_append, h2 x, List.mem_singleton]
        constructor
        · rintro (⟨a, b, c⟩ | rfl)
          · exact ⟨a, b, by omega⟩
          · exact ⟨k, by omega, by omega⟩
        · rintro ⟨a, b, c⟩
          by_cases q : x = n
          · exact .inr q
          · exact .inl ⟨a, b, by omega⟩
    · rw [if_neg k]
      rw [decide_eq_true_eq] at k
      refine ⟨h1, fun x => ?_⟩
      rw [h2 x]
      constructor
      · rintro ⟨a, b, c⟩; exact ⟨a, b, by omega⟩
      · rintro ⟨a, b, c⟩
        refine ⟨a, b, ?_⟩
        by_cases q : x = n
        · subst q; exact absurd a k
        · omega
theorem compact_sort (L : List Int) (n : Nat) (h : ∀ x ∈ L, 0 ≤ x ∧ x < n) : Lib.compact (L.mergeSort fun x y => decide (x ≤ y)) = below L n := by
  obtain ⟨h1, h2⟩ := compact_asc (sort_asc L) _ (Nat.le_refl _)
  obtain ⟨h3, h4⟩ := below_asc L n
  refine asc_ext h1 h3 fun x => ?_
  rw [h4 x]
  show x ∈ Lib.compactUpTo _ _ ↔ _
  rw [h2 x]
  constructor
  · rintro ⟨j, hj, rfl⟩
    rw [arr_get hj]
    have : (L.mergeSort fun x y => decide (x ≤ y))[j] ∈ L := List.mem_mergeSort.1 (List.getElem_mem hj)
    exact ⟨this, h _ this⟩
  · rintro ⟨a, _, _⟩
    obtain ⟨j, hj, e⟩ := List.getElem_of_mem (List.mem_mergeSort.2 a : x ∈ L.mergeSort fun x y => decide (x ≤ y))
    exact ⟨j, hj, by rw [arr_get hj]; exact e⟩

def useIn (l : List Tm) (vars : Nat) (v : Nat) : Bool := decide ((v : Int) ∈ usedL l vars)
def isTo (R : Rl) (vars v : Nat) : Nat → Bool
  | 0 => useIn R.cond vars v
  | k + 1 => isTo R vars v k || useIn (el R.terms k) vars v
def touchTo (R : Rl) (vars n : Nat) : Nat → List Int
  | 0 => []
  | v + 1 => if isTo R vars v n = true then touchTo R vars n v ++ [(v : Int)] else touchTo R vars n v
def gath (R : Rl) (vars : Nat) : Nat → List Int
  | 0 => usedL R.cond vars
  | k + 1 => gath R vars k ++ usedL (el R.terms k) vars
theorem mem_gath (R : Rl) (vars v : Nat) : ∀ n, decide ((v : Int) ∈ gath R vars n) = isTo R vars v n
  | 0 => rfl
  | n + 1 => by
    show decide ((v : Int) ∈ gath R vars n ++ usedL (el R.terms n) vars) = (isTo R vars v n || useIn (el R.terms n) vars v)
    rw [← mem_gath R vars v n]
    unfold useIn
    rw [← Bool.decide_or, decide_eq_decide, List.mem_append]
theorem touch_below (R : Rl) (vars n : Nat) : ∀ v, below (gath R vars n) v = touchTo R vars n v
  | 0 => rfl
  | v + 1 => by unfold below touchTo; rw [mem_gath, touch_below R vars n v]
theorem used_in {l : List Tm} {vars : Nat} {x : Int} (h : x ∈ usedL l vars) : 0 ≤ x ∧ x < vars := by
  unfold usedL at h
  by_cases g : validB l vars = true
  · rw [if_pos g] at h
    unfold usedTo at h
    obtain ⟨v, hv, rfl⟩ := List.mem_map.1 h
    have := List.mem_range.1 (List.mem_filter.1 hv).1
    omega
  · rw [if_neg g] at h; cases h
theorem gath_in {R : Rl} {vars : Nat} : ∀ {n : Nat} {x : Int}, x ∈ gath R vars n → 0 ≤ x ∧ x < vars
  | 0, _, h => used_in h
  | n + 1, x, h => by
    rcases List.mem_append.1 h with h | h
    · exact gath_in h
    · exact used_in h
theorem gath_len (R : Rl) (vars : Nat) : ∀ n, (gath R vars n).length ≤ 40 * (n + 1)
  | 0 => by have := used_len R.cond vars; unfold gath; omega
  | n + 1 => by have := used_len (el R.terms n) vars; have := gath_len R vars n; unfold gath; rw [List.length_append]; omega
theorem uses_eq (R : Rl) (vars n : Nat) : Lib.compact ((gath R vars n).mergeSort fun x y => decide (x ≤ y)) = touchTo R vars n vars := by
  rw [compact_sort _ vars fun x hx => gath_in hx, touch_below]
theorem touchTo_len (R : Rl) (vars n : Nat) : ∀ v, (touchTo R vars n v).length ≤ v
  | 0 => by simp [touchTo]
  | v + 1 => by
    have := touchTo_len R vars n v
    unfold touchTo
    by_cases h : isTo R vars v n = true
    · rw [if_pos h]; simp; omega
    · rw [if_neg h]; omega
def touchA (s : Sy) (r : Int) : List Int := if sysB s && ruleIn s r then (el s.rules r.toNat).sets else []
def touchB (s : Sy) (r : Int) : List Int := if sysB s && ruleIn s r then touchTo (el s.rules r.toNat) s.vars.length (el s.rules r.toNat).terms.length s.vars.length else []
end Go.Proofs.Ytpaagplopefklaa
