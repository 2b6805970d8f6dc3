/- Diagrams: the variables that are used (plain): gathered, sorted, each once. -/
import Derived.Test.YtnpdeliaefjmlaaRch
import Derived.Lib.SlicesCompact
import Derived.Lib.RowBridge
namespace Go.Proofs.Ytnpdeliaefjmlaa
open Go.RowKit

theorem asc_extD : ∀ {a b : List Int}, a.Pairwise (· < ·) → b.Pairwise (· < ·) → (∀ x, x ∈ a ↔ x ∈ b) → a = b
  | [], [], _, _, _ => rfl
  | [], y :: b, _, _, h => absurd ((h y).2 (by simp)) (by simp)
  | x :: a, [], _, _, h => absurd ((h x).1 (by simp)) (by simp)
  | x :: a, y :: b, ha, hb, h => by
    rw [List.pairwise_cons] at ha hb
    have e : x = y := by
      have h1 := (h x).1 (by simp)
      have h2 := (h y).2 (by simp)
      rcases List.mem_cons.1 h1 with e | m1
      · exact e
      · rcases List.mem_cons.1 h2 with e | m2
        · exact e.symm
        · have := ha.1 y m2; have := hb.1 x m1; omega
    subst e
    rw [asc_extD ha.2 hb.2 fun z => ?_]
    constructor
    · intro hz
      rcases List.mem_cons.1 ((h z).1 (by simp [hz])) with e | m
      · have := ha.1 z hz; omega
      · exact m
    · intro hz
      rcases List.mem_cons.1 ((h z).2 (by simp [hz])) with e | m
      · have := hb.1 z hz; omega
      · exact m

theorem compact_ascD {zs : List Int} (hs : ∀ i j, i ≤ j → j < zs.length → zs.toArray[i]! ≤ zs.toArray[j]!) : ∀ m, m ≤ zs.length →
    (Lib.compactUpTo zs.toArray m).Pairwise (· < ·) ∧ ∀ x, x ∈ Lib.compactUpTo zs.toArray m ↔ ∃ j, j < m ∧ zs.toArray[j]! = x
  | 0, _ => ⟨by simp [Lib.compactUpTo], by simp [Lib.compactUpTo]⟩
  | m + 1, hm => by
    obtain ⟨h1, h2⟩ := compact_ascD hs m (by omega)
    rw [Lib.compactUpTo_succ]
    by_cases k : Lib.keeps zs.toArray m = true
    · rw [if_pos k]
      constructor
      · rw [List.pairwise_append]
        refine ⟨h1, by simp, fun x hx y hy => ?_⟩
        obtain ⟨j, hj, rfl⟩ := (h2 x).1 hx
        rw [List.mem_singleton] at hy
        subst hy
        have a := hs j (m - 1) (by omega) (by omega)
        have b := hs (m - 1) m (by omega) (by omega)
        have c : zs.toArray[m]! ≠ zs.toArray[m - 1]! := by
          unfold Lib.keeps at k
          rw [decide_eq_true_eq] at k
          rcases k with k | k
          · omega
          · exact k
        omega
      · intro x
        rw [List.mem_append, h2 x, List.mem_singleton]
        constructor
        · rintro (⟨j, hj, e⟩ | e)
          · exact ⟨j, by omega, e⟩
          · exact ⟨m, by omega, e.symm⟩
        · rintro ⟨j, hj, e⟩
          by_cases q : j = m
          · subst q; exact .inr e.symm
          · exact .inl ⟨j, by omega, e⟩
    · rw [if_neg k, List.append_nil]
      refine ⟨h1, fun x => ?_⟩
      rw [h2 x]
      have c : m ≠ 0 ∧ zs.toArray[m]! = zs.toArray[m - 1]! := by
        unfold Lib.keeps at k
        rw [decide_eq_true_eq] at k
        exact ⟨fun e => k (.inl e), Decidable.byContradiction fun e => k (.inr e)⟩
      constructor
      · rintro ⟨j, hj, e⟩; exact ⟨j, by omega, e⟩
      · rintro ⟨j, hj, e⟩
        by_cases q : j = m
        · subst q; exact ⟨j - 1, by omega, by rw [← c.2]; exact e⟩
        · exact ⟨j, by omega, e⟩
theorem arr_getD {zs : List Int} {i : Nat} (h : i < zs.length) : zs.toArray[i]! = zs[i] := by simp [h]
theorem sort_ascD (L : List Int) : ∀ i j, i ≤ j → j < (L.mergeSort fun x y => decide (x ≤ y)).length → (L.mergeSort fun x y => decide (x ≤ y)).toArray[i]! ≤ (L.mergeSort fun x y => decide (x ≤ y)).toArray[j]! := by
  intro i j hij hj
  have hp : (L.mergeSort fun x y => decide (x ≤ y)).Pairwise fun a b => decide (a ≤ b) = true :=
    List.pairwise_mergeSort (fun a b c h1 h2 => by rw [decide_eq_true_eq] at *; omega) (fun a b => by simp; omega) L
  rw [arr_getD (by omega), arr_getD hj]
  by_cases e : i = j
  · subst e; exact Int.le_refl _
  · have := List.pairwise_iff_getElem.1 hp i j (by omega) hj (by omega)
    rw [decide_eq_true_eq] at this; exact this
/-- The numbers belowD n that are in a list. -/
def belowD (L : List Int) : Nat → List Int
  | 0 => []
  | v + 1 => if decide ((v : Int) ∈ L) = true then belowD L v ++ [(v : Int)] else belowD L v
theorem below_ascD (L : List Int) : ∀ n, (belowD L n).Pairwise (· < ·) ∧ ∀ x, x ∈ belowD L n ↔ x ∈ L ∧ 0 ≤ x ∧ x < n
  | 0 => ⟨by simp [belowD], fun x => by simp [belowD] <;> omega⟩
  | n + 1 => by
    obtain ⟨h1, h2⟩ := below_ascD L n
    unfold belowD
    by_cases k : decide ((n : Int) ∈ L) = true
    · rw [if_pos k]
      rw [decide_eq_true_eq] at k
      refine ⟨?_, fun x => ?_⟩
      · rw [List.pairwise_append]
        refine ⟨h1, by simp, fun x hx y hy => ?_⟩
        rw [List.mem_singleton] at hy
        have := (h2 x).1 hx
        omega
      · rw [List.mem_append, h2 x, List.mem_singleton]
        constructor
        · rintro (⟨a, b, c⟩ | rfl)
          · exact ⟨a, b, by omega⟩
          · exact ⟨k, by omega, by omega⟩
        · rintro ⟨a, b, c⟩
          by_cases q : x = n
          · exact .inr q
          · exact .inl ⟨a, b, by omega⟩
    · rw [if_neg k]
      rw [decide_eq_true_eq] at k
      refine ⟨h1, fun x => ?_⟩
      rw [h2 x]
      constructor
      · rintro ⟨a, b, c⟩; exact ⟨a, b, by omega⟩
      · rintro ⟨a, b, c⟩
        refine ⟨a, b, ?_⟩
        by_cases q : x = n
        · subst q; exact absurd a k
        · omega
theorem compact_sortD (L : List Int) (n : Nat) (h : ∀ x ∈ L, 0 ≤ x ∧ x < n) : Lib.compact (L.mergeSort fun x y => decide (x ≤ y)) = belowD L n := by
  obtain ⟨h1, h2⟩ := compact_ascD (sort_ascD L) _ (Nat.le_refl _)
  obtain ⟨h3, h4⟩ := below_ascD L n
  refine asc_extD h1 h3 fun x => ?_
  rw [h4 x]
  show x ∈ Lib.compactUpTo _ _ ↔ _
  rw [h2 x]
  constructor
  · rintro ⟨j, hj, rfl⟩
    rw [arr_getD hj]
    have : (L.mergeSort fun x y => decide (x ≤ y))[j] ∈ L := List.mem_mergeSort.1 (List.getElem_mem hj)
    exact ⟨this, h _ this⟩
  · rintro ⟨a, _, _⟩
    obtain ⟨j, hj, e⟩ := List.getElem_of_mem (List.mem_mergeSort.2 a : x ∈ L.mergeSort fun x y => decide (x ≤ y))
    exact ⟨j, hj, by rw [arr_getD hj]; exact e⟩


/-- The variables of those of the first m forks to which one comes. -/
def gthR (d : Dg) (R : Nat → Bool) : Nat → List Int
  | 0 => []
  | m + 1 => if R (2 + m) = true then gthR d R m ++ [(el d.forks m).v] else gthR d R m
/-- Whether one of the first m forks to which one comes has a variable. -/
def hasR (d : Dg) (R : Nat → Bool) (v : Nat) : Nat → Bool
  | 0 => false
  | m + 1 => hasR d R v m || (R (2 + m) && decide ((el d.forks m).v = v))
theorem hasR_mem (d : Dg) (R : Nat → Bool) (v : Nat) : ∀ m, hasR d R v m = decide ((v : Int) ∈ gthR d R m)
  | 0 => rfl
  | m + 1 => by
    unfold hasR gthR
    rw [hasR_mem d R v m]
    cases h : R (2 + m)
    · simp
    · rw [if_pos rfl, Bool.true_and, ← Bool.decide_or, decide_eq_decide, List.mem_append, List.mem_singleton]
      exact ⟨fun h => h.imp id Eq.symm, fun h => h.imp id Eq.symm⟩
theorem gthR_in {d : Dg} (ok : d.Ok) {R : Nat → Bool} : ∀ {m : Nat}, m ≤ d.forks.length → ∀ x ∈ gthR d R m, 0 ≤ x ∧ x < d.vars
  | 0, _, x, h => by cases h
  | m + 1, hm, x, h => by
    unfold gthR at h
    have F := ok.fork m (by omega)
    split at h
    · rcases List.mem_append.1 h with h | h
      · exact gthR_in ok (by omega) x h
      · rw [List.mem_singleton] at h
        subst h
        exact ⟨F.v0, F.v1⟩
    · exact gthR_in ok (by omega) x h
theorem gthR_len (d : Dg) (R : Nat → Bool) : ∀ m, (gthR d R m).length ≤ m
  | 0 => Nat.le_refl _
  | m + 1 => by
    have := gthR_len d R m
    unfold gthR
    split
    · rw [List.length_append, List.length_singleton]; omega
    · omega
noncomputable def dgUsesB (d : Dg) (nn : Int) : List Int := if (dgB d && isP d nn) = true then belowD (gthR d (reachF d nn) d.forks.length) d.vars.toNat else []
theorem belowD_len (L : List Int) : ∀ n, (belowD L n).length ≤ n
  | 0 => Nat.le_refl _
  | n + 1 => by
    have := belowD_len L n
    unfold belowD
    split
    · rw [List.length_append, List.length_singleton]; omega
    · omega
theorem dgUsesB_len (d : Dg) (nn : Int) : (dgUsesB d nn).length ≤ 1000000 := by
  unfold dgUsesB
  split
  · rename_i h
    rw [Bool.and_eq_true] at h
    have := (dgB_iff.1 h.1).hi
    exact Nat.le_trans (belowD_len _ _) (by omega)
  · exact Nat.zero_le _
theorem uses_sorted {d : Dg} (ok : d.Ok) (R : Nat → Bool) : Lib.compact ((gthR d R d.forks.length).mergeSort fun x y => decide (x ≤ y)) = belowD (gthR d R d.forks.length) d.vars.toNat :=
  compact_sortD _ _ fun x hx => by
    have := gthR_in ok (Nat.le_refl _) x hx
    omega
end Go.Proofs.Ytnpdeliaefjmlaa
