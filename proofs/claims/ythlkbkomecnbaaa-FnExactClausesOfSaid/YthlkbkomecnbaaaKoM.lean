/- The clause of some literals, by marks (plain). -/
import Derived.Test.YthlkbkomecnbaaaKoP
namespace Go.Proofs.Ythlkbkomecnbaaa
open Go.RowKit

/-- The mark of an atom behind k literals. -/
def mkTo (l : List Int) : Nat → Nat → Int
  | 0, _ => 0
  | k + 1, b => if (ix l k).natAbs = b then ix l k else mkTo l k b
/-- No literal of the first k is contrary to another one. -/
def noC (l : List Int) (k : Nat) : Prop := ∀ i j, i < k → j < k → (ix l i).natAbs = (ix l j).natAbs → ix l i = ix l j
theorem mkTo_mem (l : List Int) : ∀ k b, mkTo l k b ≠ 0 → ∃ i, i < k ∧ ix l i = mkTo l k b ∧ (mkTo l k b).natAbs = b
  | 0, b, h => absurd rfl h
  | k + 1, b, h => by
    by_cases e : (ix l k).natAbs = b
    · have h2 : mkTo l (k + 1) b = ix l k := if_pos e
      exact ⟨k, by omega, h2.symm, by rw [h2]; exact e⟩
    · have h2 : mkTo l (k + 1) b = mkTo l k b := if_neg e
      rw [h2] at h ⊢
      obtain ⟨i, hi, h3, h4⟩ := mkTo_mem l k b h
      exact ⟨i, by omega, h3, h4⟩
theorem mkTo_of {l : List Int} : ∀ {k : Nat}, noC l k → ∀ i, i < k → mkTo l k (ix l i).natAbs = ix l i
  | 0, _, i, hi => absurd hi (by omega)
  | k + 1, h, i, hi => by
    by_cases e : (ix l k).natAbs = (ix l i).natAbs
    · have h2 : mkTo l (k + 1) (ix l i).natAbs = ix l k := if_pos e
      rw [h2]; exact h k i (by omega) hi e
    · have h2 : mkTo l (k + 1) (ix l i).natAbs = mkTo l k (ix l i).natAbs := if_neg e
      rw [h2]
      have : i ≠ k := fun q => e (by rw [q])
      exact mkTo_of (fun i j hi hj => h i j (by omega) (by omega)) i (by omega)
/-- A mark that is another one: contrary. -/
theorem noC_step {l : List Int} {k : Nat} (h : noC l k) (hm : mkTo l k (ix l k).natAbs = 0 ∨ mkTo l k (ix l k).natAbs = ix l k) (hz : ∀ i, i < k → ix l i ≠ 0) : noC l (k + 1) := by
  have key : ∀ i, i < k → (ix l i).natAbs = (ix l k).natAbs → ix l i = ix l k := fun i hi e => by
    have h1 := mkTo_of h i hi
    rw [e] at h1
    rcases hm with q | q
    · rw [q] at h1; exact absurd h1.symm (hz i hi)
    · rw [← h1, q]
  intro i j hi hj e
  by_cases q : i = k
  · by_cases q2 : j = k
    · rw [q, q2]
    · rw [q]; exact (key j (by omega) (by rw [← e, q])).symm
  · by_cases q2 : j = k
    · rw [q2]; exact key i (by omega) (by rw [e, q2])
    · exact h i j (by omega) (by omega) e
theorem noC_bad {l : List Int} {k : Nat} (hk : k < l.length) (h0 : mkTo l k (ix l k).natAbs ≠ 0) (h1 : mkTo l k (ix l k).natAbs ≠ ix l k) (a : Int) : ¬ ∃ r, ClOf l a r := by
  rintro ⟨r, hr⟩
  obtain ⟨_, _, _, h3⟩ := hr.lits
  obtain ⟨i, hi, e, en⟩ := mkTo_mem l k _ h0
  have := h3 (ix l i) (by rw [ix_lt (by omega)]; exact List.getElem_mem _) (ix l k) (by rw [ix_lt hk]; exact List.getElem_mem _) (by rw [e]; exact en)
  rw [e] at this
  exact h1 this
/-- The marks as a row. -/
def mkL (l : List Int) (k z : Nat) : List Int := (List.range z).map (mkTo l k)
theorem mkL_len (l : List Int) (k z : Nat) : (mkL l k z).length = z := by simp [mkL]
theorem mkL_at (l : List Int) (k : Nat) {z j : Nat} (h : j < z) : ix (mkL l k z) j = mkTo l k j := by
  rw [ix_lt (by rw [mkL_len]; exact h)]; simp [mkL]
theorem mkL_set (l : List Int) (k z : Nat) : (mkL l k z).set (ix l k).natAbs (ix l k) = mkL l (k + 1) z := by
  refine List.ext_getElem (by simp [mkL]) fun j h1 h2 => ?_
  rw [List.getElem_set]
  simp only [mkL, List.getElem_map, List.getElem_range]
  show _ = (if (ix l k).natAbs = j then ix l k else mkTo l k j)
  rfl
theorem mkL_zero (l : List Int) (z : Nat) : mkL l 0 z = List.replicate z 0 := by
  refine List.ext_getElem (by simp [mkL]) fun j h1 h2 => ?_
  simp [mkL, mkTo]
/-- The marks that are there, up to b. -/
def outTo (f : Nat → Int) : Nat → List Int
  | 0 => []
  | b + 1 => if f (b + 1) = 0 then outTo f b else outTo f b ++ [f (b + 1)]
theorem outTo_len (f : Nat → Int) : ∀ b, (outTo f b).length ≤ b
  | 0 => Nat.le_refl _
  | b + 1 => by
    have := outTo_len f b
    unfold outTo
    split
    · omega
    · rw [List.length_append]; simp; omega
theorem outTo_mem (f : Nat → Int) (x : Int) : ∀ b, x ∈ outTo f b ↔ ∃ j, 1 ≤ j ∧ j ≤ b ∧ f j = x ∧ x ≠ 0
  | 0 => by simp [outTo]; omega
  | b + 1 => by
    have ih := outTo_mem f x b
    unfold outTo
    split
    · rename_i h0
      rw [ih]
      constructor
      · rintro ⟨j, h1, h2, h3⟩; exact ⟨j, h1, by omega, h3⟩
      · rintro ⟨j, h1, h2, h3, h4⟩
        by_cases q : j = b + 1
        · subst q; rw [h3] at h0; exact absurd h0 h4
        · exact ⟨j, h1, by omega, h3, h4⟩
    · rename_i h0
      rw [List.mem_append, ih, List.mem_singleton]
      constructor
      · rintro (⟨j, h1, h2, h3⟩ | rfl)
        · exact ⟨j, h1, by omega, h3⟩
        · exact ⟨b + 1, by omega, by omega, rfl, h0⟩
      · rintro ⟨j, h1, h2, h3, h4⟩
        by_cases q : j = b + 1
        · subst q; exact .inr h3.symm
        · exact .inl ⟨j, h1, by omega, h3, h4⟩
theorem outTo_pw {f : Nat → Int} (hf : ∀ j, f j ≠ 0 → (f j).natAbs = j) : ∀ b, (outTo f b).Pairwise fun x y => x.natAbs < y.natAbs
  | 0 => by simp [outTo]
  | b + 1 => by
    have ih := outTo_pw hf b
    unfold outTo
    split
    · exact ih
    · rename_i h0
      rw [List.pairwise_append]
      refine ⟨ih, by simp, fun x hx y hy => ?_⟩
      rw [List.mem_singleton] at hy
      subst hy
      obtain ⟨j, h1, h2, rfl, h4⟩ := (outTo_mem f x b).1 hx
      rw [hf _ h0, hf _ h4]; omega
/-- All literals are ones, none is contrary: the marks are the clause. -/
theorem marks_clause {l : List Int} {a : Int} {z : Nat} (hz : (z : Int) = a) (h1 : a ≤ 700) (hl : ∀ i, i < l.length → ix l i ≠ 0 ∧ -a ≤ ix l i ∧ ix l i ≤ a) (hc : noC l l.length) : clauseB l a = outTo (mkTo l l.length) z ∧ clauseOkB l a = true := by
  have hf : ∀ j, mkTo l l.length j ≠ 0 → (mkTo l l.length j).natAbs = j := fun j h => by
    obtain ⟨_, _, _, e⟩ := mkTo_mem l l.length j h; exact e
  have hm : ∀ x, x ∈ outTo (mkTo l l.length) z ↔ x ∈ l := fun x => by
    rw [outTo_mem]
    constructor
    · rintro ⟨j, _, _, rfl, h4⟩
      obtain ⟨i, hi, e, _⟩ := mkTo_mem l l.length j h4
      rw [← e, ix_lt hi]; exact List.getElem_mem hi
    · intro hx
      obtain ⟨i, hi, rfl⟩ := List.getElem_of_mem hx
      obtain ⟨b1, b2, b3⟩ := hl i hi
      rw [← ix_lt hi]
      exact ⟨(ix l i).natAbs, by omega, by omega, mkTo_of hc i hi, b1⟩
  refine clauseB_yes ⟨cvOk_of (by omega) h1 (fun x hx => ?_) (outTo_pw hf z), hm⟩
  obtain ⟨i, hi, rfl⟩ := List.getElem_of_mem ((hm x).1 hx)
  have := hl i hi
  rw [ix_lt hi] at this
  exact this
end Go.Proofs.Ythlkbkomecnbaaa
