/- The clause of some literals (plain). -/
import Derived.Test.YthlkbkomecnbaaaKcP
import Derived.Lib.SlicesCompact
namespace Go.Proofs.Ythlkbkomecnbaaa
open Go.RowKit

/-- r is the clause of l. -/
def ClOf (l : List Int) (a : Int) (r : List Int) : Prop := CvOk r a ∧ ∀ x, x ∈ r ↔ x ∈ l
open Classical in
noncomputable def clauseB (l : List Int) (a : Int) : List Int := if h : ∃ r, ClOf l a r then Classical.choose h else []
noncomputable def clauseOkB (l : List Int) (a : Int) : Bool := @decide (∃ r, ClOf l a r) (Classical.propDecidable _)

theorem cv_mono {r : List Int} {a : Int} (h : CvOk r a) : ∀ j i, i < j → j < r.length → (ix r i).natAbs < (ix r j).natAbs
  | 0, i, hi, _ => absurd hi (by omega)
  | j + 1, i, hi, hj => by
    have h1 := (h.lit (j + 1) hj).2.2
    have h2 : aheadL r (j + 1) = ((ix r j).natAbs : Int) := rfl
    rw [h2] at h1
    by_cases e : i = j
    · subst e; omega
    · have := cv_mono h j i (by omega) (by omega); omega
theorem cv_pw {r : List Int} {a : Int} (h : CvOk r a) : r.Pairwise fun x y => x.natAbs < y.natAbs := by
  rw [List.pairwise_iff_getElem]
  intro i j hi hj hij
  have := cv_mono h j i hij hj
  rw [ix_lt hi, ix_lt hj] at this
  exact this
theorem key_ext {a : List Int} (ha : a.Pairwise fun x y => x.natAbs < y.natAbs) {b : List Int} (hb : b.Pairwise fun x y => x.natAbs < y.natAbs) (h : ∀ x, x ∈ a ↔ x ∈ b) : a = b := by
  induction a generalizing b with
  | nil => cases b with
    | nil => rfl
    | cons y b => exact absurd ((h y).2 (by simp)) (by simp)
  | cons x a ih => cases b with
    | nil => exact absurd ((h x).1 (by simp)) (by simp)
    | cons y b =>
      rw [List.pairwise_cons] at ha hb
      have e : x = y := by
        have h1 := (h x).1 (by simp)
        have h2 := (h y).2 (by simp)
        rcases List.mem_cons.1 h1 with e | m1
        · exact e
        · rcases List.mem_cons.1 h2 with e | m2
          · exact e.symm
          · have := ha.1 y m2; have := hb.1 x m1; omega
      subst e
      rw [ih ha.2 hb.2 fun z => ?_]
      constructor
      · intro hz
        rcases List.mem_cons.1 ((h z).1 (by simp [hz])) with e | m
        · have := ha.1 z hz; subst e; omega
        · exact m
      · intro hz
        rcases List.mem_cons.1 ((h z).2 (by simp [hz])) with e | m
        · have := hb.1 z hz; subst e; omega
        · exact m
theorem clauseB_yes {l : List Int} {a : Int} {r : List Int} (h : ClOf l a r) : clauseB l a = r ∧ clauseOkB l a = true := by
  have hx : ∃ r, ClOf l a r := ⟨r, h⟩
  constructor
  · unfold clauseB
    rw [dif_pos hx]
    have h2 := Classical.choose_spec hx
    exact key_ext (cv_pw h2.1) (cv_pw h.1) fun x => (h2.2 x).trans (h.2 x).symm
  · unfold clauseOkB; exact @decide_eq_true _ (Classical.propDecidable _) hx
theorem clauseB_no {l : List Int} {a : Int} (h : ¬ ∃ r, ClOf l a r) : clauseB l a = [] ∧ clauseOkB l a = false := by
  constructor
  · unfold clauseB; rw [dif_neg h]
  · unfold clauseOkB; exact @decide_eq_false _ (Classical.propDecidable _) h
/-- A clause has at most 700 literals. -/
theorem cv_len {r : List Int} {a : Int} (h : CvOk r a) : (r.length : Int) ≤ a := by
  have hk : ∀ k, k < r.length → k + 1 ≤ (ix r k).natAbs := by
    intro k
    induction k with
    | zero => intro hk; have h1 := (h.lit 0 hk).2.2; have h2 : aheadL r 0 = 0 := rfl; omega
    | succ k ih => intro hk; have := ih (by omega); have := cv_mono h (k + 1) k (by omega) hk; omega
  by_cases e : r.length = 0
  · have := h.lo; omega
  · have h1 := hk (r.length - 1) (by omega)
    obtain ⟨b1, b2, _⟩ := h.lit (r.length - 1) (by omega)
    omega
theorem clauseB_ok {l : List Int} {a : Int} (h : clauseOkB l a = true) : ClOf l a (clauseB l a) := by
  by_cases hx : ∃ r, ClOf l a r
  · obtain ⟨r, hr⟩ := hx
    rw [(clauseB_yes hr).1]; exact hr
  · rw [(clauseB_no hx).2] at h; cases h
theorem clauseB_len (l : List Int) (a : Int) : (clauseB l a).length ≤ 1000000 := by
  by_cases h : ∃ r, ClOf l a r
  · obtain ⟨r, hr⟩ := h
    rw [(clauseB_yes hr).1]
    have := cv_len hr.1
    have := hr.1.hi
    omega
  · rw [(clauseB_no h).1]; simp

/-- Of a clause: its members are literals, and none is contrary to another one. -/
theorem ClOf.lits {l : List Int} {a : Int} {r : List Int} (h : ClOf l a r) : 0 ≤ a ∧ a ≤ 700 ∧ (∀ x ∈ l, x ≠ 0 ∧ -a ≤ x ∧ x ≤ a) ∧ ∀ x ∈ l, ∀ y ∈ l, x.natAbs = y.natAbs → x = y := by
  refine ⟨h.1.lo, h.1.hi, fun x hx => ?_, fun x hx y hy e => ?_⟩
  · obtain ⟨k, hk, rfl⟩ := List.getElem_of_mem ((h.2 x).2 hx)
    obtain ⟨b1, b2, b3⟩ := h.1.lit k hk
    have : 0 ≤ aheadL r k := by unfold aheadL; split <;> omega
    rw [ix_lt hk] at b1 b2 b3
    exact ⟨by omega, b1, b2⟩
  · obtain ⟨i, hi, rfl⟩ := List.getElem_of_mem ((h.2 x).2 hx)
    obtain ⟨j, hj, rfl⟩ := List.getElem_of_mem ((h.2 y).2 hy)
    rcases Nat.lt_trichotomy i j with q | q | q
    · have := cv_mono h.1 j i q hj
      rw [ix_lt hi, ix_lt hj] at this; omega
    · subst q; rfl
    · have := cv_mono h.1 i j q hi
      rw [ix_lt hi, ix_lt hj] at this; omega
/-- A list of literals that ascends is a clause. -/
theorem cvOk_of {r : List Int} {a : Int} (h0 : 0 ≤ a) (h1 : a ≤ 700) (hl : ∀ x ∈ r, x ≠ 0 ∧ -a ≤ x ∧ x ≤ a) (hp : r.Pairwise fun x y => x.natAbs < y.natAbs) : CvOk r a := by
  refine ⟨h0, h1, fun k hk => ?_⟩
  obtain ⟨b1, b2, b3⟩ := hl (ix r k) (by rw [ix_lt hk]; exact List.getElem_mem hk)
  refine ⟨b2, b3, ?_⟩
  match k, hk, b1 with
  | 0, _, b1 => show (0 : Int) < _; omega
  | j + 1, hk, _ =>
    have := List.pairwise_iff_getElem.1 hp j (j + 1) (by omega) hk (by omega)
    show ((ix r j).natAbs : Int) < _
    rw [ix_lt hk, ix_lt (by omega)]
    omega

/-! ### Sorted and compacted -/
theorem cmem (zs : List Int) : ∀ m, m ≤ zs.length → ∀ x, x ∈ Lib.compactUpTo zs.toArray m ↔ ∃ j, j < m ∧ zs.toArray[j]! = x
  | 0, _ => by simp [Lib.compactUpTo]
  | m + 1, hm => by
    have h2 := cmem zs m (by omega)
    rw [Lib.compactUpTo_succ]
    intro x
    by_cases k : Lib.keeps zs.toArray m = true
    · rw [if_pos k, List.mem_append, h2 x, List.mem_singleton]
      constructor
      · rintro (⟨j, hj, e⟩ | e)
        · exact ⟨j, by omega, e⟩
        · exact ⟨m, by omega, e.symm⟩
      · rintro ⟨j, hj, e⟩
        by_cases q : j = m
        · subst q; exact .inr e.symm
        · exact .inl ⟨j, by omega, e⟩
    · rw [if_neg k, List.append_nil, h2 x]
      constructor
      · rintro ⟨j, hj, e⟩; exact ⟨j, by omega, e⟩
      · rintro ⟨j, hj, e⟩
        by_cases q : j = m
        · subst q
          have c : j ≠ 0 ∧ zs.toArray[j]! = zs.toArray[j - 1]! := by
            unfold Lib.keeps at k
            rw [decide_eq_true_eq] at k
            refine ⟨fun z => k (.inl z), ?_⟩
            by_cases g : zs.toArray[j]! = zs.toArray[j - 1]!
            · exact g
            · exact absurd (.inr g) k
          exact ⟨j - 1, by omega, by rw [← c.2]; exact e⟩
        · exact ⟨j, by omega, e⟩
theorem arr_ix {zs : List Int} {j : Nat} (h : j < zs.length) : zs.toArray[j]! = zs[j] := by
  rw [getElem!_pos zs.toArray j (by simpa using h)]; simp
theorem cpw {zs : List Int} (hs : ∀ i j, i < j → j < zs.length → (zs.toArray[i]!).natAbs ≤ (zs.toArray[j]!).natAbs) (hi : ∀ x ∈ zs, ∀ y ∈ zs, x.natAbs = y.natAbs → x = y) : ∀ m, m ≤ zs.length →
    (Lib.compactUpTo zs.toArray m).Pairwise fun x y => x.natAbs < y.natAbs
  | 0, _ => by simp [Lib.compactUpTo]
  | m + 1, hm => by
    have h1 := cpw hs hi m (by omega)
    have h2 := cmem zs m (by omega)
    rw [Lib.compactUpTo_succ]
    by_cases k : Lib.keeps zs.toArray m = true
    · rw [if_pos k, List.pairwise_append]
      refine ⟨h1, by simp, fun x hx y hy => ?_⟩
      obtain ⟨j, hj, rfl⟩ := (h2 x).1 hx
      rw [List.mem_singleton] at hy
      subst hy
      have c : zs.toArray[m]! ≠ zs.toArray[m - 1]! := by
        unfold Lib.keeps at k
        rw [decide_eq_true_eq] at k
        rcases k with k | k
        · omega
        · exact k
      have e2 := hs (m - 1) m (by omega) (by omega)
      have e1 : (zs.toArray[j]!).natAbs ≤ (zs.toArray[m - 1]!).natAbs := by
        by_cases q : j = m - 1
        · subst q; exact Nat.le_refl _
        · exact hs j (m - 1) (by omega) (by omega)
      have e3 : (zs.toArray[m - 1]!).natAbs ≠ (zs.toArray[m]!).natAbs := fun e => c (hi _ (by rw [arr_ix (show m - 1 < zs.length by omega)]; exact List.getElem_mem _) _ (by rw [arr_ix (show m < zs.length by omega)]; exact List.getElem_mem _) e).symm
      omega
    · rw [if_neg k, List.append_nil]; exact h1
theorem compact_mem (zs : List Int) (x : Int) : x ∈ Lib.compact zs ↔ x ∈ zs := by
  unfold Lib.compact
  rw [cmem zs zs.length (Nat.le_refl _) x]
  constructor
  · rintro ⟨j, hj, rfl⟩; rw [arr_ix hj]; exact List.getElem_mem hj
  · intro h
    obtain ⟨j, hj, e⟩ := List.getElem_of_mem h
    exact ⟨j, hj, by rw [arr_ix hj]; exact e⟩
/-- What atomOf answers, whatever the number. -/
def atW (x : Int) : Int := max x (wrap64 (-x))
theorem atW_small {x : Int} (h0 : -1000000 ≤ x) (h1 : x ≤ 1000000) : atW x = (x.natAbs : Int) := by
  unfold atW
  rw [IntWalk.wrap64_in _ (by omega)]
  omega
/-- The program's answer: sorted, compacted, and asked whether it is a clause. -/
theorem clause_sorted {l S : List Int} {a : Int} (hm : ∀ x, x ∈ S ↔ x ∈ l) (hs : ∀ i j, i < j → j < S.length → atW (S.toArray[i]!) ≤ atW (S.toArray[j]!)) :
    (cvB (Lib.compact S) a = true → clauseB l a = Lib.compact S ∧ clauseOkB l a = true) ∧ (cvB (Lib.compact S) a = false → clauseB l a = [] ∧ clauseOkB l a = false) := by
  constructor
  · intro h
    exact clauseB_yes ⟨cvB_iff.1 h, fun x => (compact_mem S x).trans (hm x)⟩
  · intro h
    refine clauseB_no fun ⟨r, hr⟩ => ?_
    obtain ⟨h0, h1, h2, h3⟩ := hr.lits
    have hS : ∀ x ∈ S, x ≠ 0 ∧ -a ≤ x ∧ x ≤ a := fun x hx => h2 x ((hm x).1 hx)
    have hc : CvOk (Lib.compact S) a := cvOk_of h0 h1 (fun x hx => hS x ((compact_mem S x).1 hx)) (cpw (fun i j hij hj => by
      have := hs i j hij hj
      obtain ⟨p1, p2, p3⟩ := hS _ (show S.toArray[i]! ∈ S by rw [arr_ix (show i < S.length by omega)]; exact List.getElem_mem _)
      obtain ⟨q1, q2, q3⟩ := hS _ (show S.toArray[j]! ∈ S by rw [arr_ix hj]; exact List.getElem_mem _)
      rw [atW_small (by omega) (by omega), atW_small (by omega) (by omega)] at this
      omega) (fun x hx y hy e => h3 x ((hm x).1 hx) y ((hm y).1 hy) e) S.length (Nat.le_refl _))
    rw [cvB_yes hc] at h; cases h
end Go.Proofs.Ythlkbkomecnbaaa
