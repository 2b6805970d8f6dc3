/- Clauses: what holds of them (plain). -/
import Derived.Test.YthlkbkomecnbaaaDoorCs
namespace Go.Proofs.YthlkbkomecnbaaaDoor
open Go.RowKit

/-- The atom ahead of the k-th literal. -/
def aheadL (l : List Int) : Nat → Int
  | 0 => 0
  | k + 1 => ((ix l k).natAbs : Int)
/-- The k-th literal is one, and behind the one ahead of it. -/
def okL (l : List Int) (a : Int) (k : Nat) : Prop := -a ≤ ix l k ∧ ix l k ≤ a ∧ aheadL l k < ((ix l k).natAbs : Int)
/-- A list that is a clause. -/
structure CvOk (l : List Int) (a : Int) : Prop where
  lo : 0 ≤ a
  hi : a ≤ 700
  lit : ∀ k, k < l.length → okL l a k
noncomputable def cvB (l : List Int) (a : Int) : Bool := @decide (CvOk l a) (Classical.propDecidable _)
theorem cvB_yes {l : List Int} {a : Int} (h : CvOk l a) : cvB l a = true := by unfold cvB; exact @decide_eq_true _ (Classical.propDecidable _) h
theorem cvB_no {l : List Int} {a : Int} (h : ¬ CvOk l a) : cvB l a = false := by unfold cvB; exact @decide_eq_false _ (Classical.propDecidable _) h
theorem cvB_iff {l : List Int} {a : Int} : cvB l a = true ↔ CvOk l a := by
  by_cases h : CvOk l a
  · simp [cvB_yes h, h]
  · simp [cvB_no h, h]
/-- Clauses that are ones. -/
structure CsOk (m : Int) (L : List (List Int)) : Prop where
  lo : 0 ≤ m
  hi : m ≤ 700
  few : L.length ≤ 2500
  all : ∀ k, k < L.length → CvOk (el L k) m
noncomputable def csvB (m : Int) (L : List (List Int)) : Bool := @decide (CsOk m L) (Classical.propDecidable _)
theorem csvB_yes {m : Int} {L : List (List Int)} (h : CsOk m L) : csvB m L = true := by unfold csvB; exact @decide_eq_true _ (Classical.propDecidable _) h
theorem csvB_no {m : Int} {L : List (List Int)} (h : ¬ CsOk m L) : csvB m L = false := by unfold csvB; exact @decide_eq_false _ (Classical.propDecidable _) h
theorem csvB_iff {m : Int} {L : List (List Int)} : csvB m L = true ↔ CsOk m L := by
  by_cases h : CsOk m L
  · simp [csvB_yes h, h]
  · simp [csvB_no h, h]
/-- A literal, as the model asks it (whatever the number of atoms). -/
def litW (n a : Int) : Bool := if n = 0 then false else inB n (wrap64 (-a)) a
def absW (n : Int) : Int := if n < 0 then wrap64 (-n) else n
theorem absW_small {n : Int} (h0 : -1000000 ≤ n) (h1 : n ≤ 1000000) : absW n = (n.natAbs : Int) := by
  unfold absW
  split
  · rw [IntWalk.wrap64_in _ (by omega)]; omega
  · omega
theorem litW_iff {n a : Int} (h0 : 0 ≤ a) (h1 : a ≤ 700) : litW n a = true ↔ n ≠ 0 ∧ -a ≤ n ∧ n ≤ a := by
  unfold litW inB
  rw [IntWalk.wrap64_in _ (by omega)]
  by_cases h : n = 0 <;> simp [h]
/-- What the model asks at the k-th literal. -/
def stepW (l : List Int) (a : Int) (k : Nat) : Prop := litW (ix l k) a = true ∧ (0 < k → absW (ix l (k - 1)) < absW (ix l k))
theorem cvok_step {l : List Int} {a : Int} (ok : CvOk l a) {k : Nat} (hk : k < l.length) : stepW l a k := by
  obtain ⟨a1, a2, a3⟩ := ok.lit k hk
  have h0 := ok.lo
  have h1 := ok.hi
  refine ⟨(litW_iff h0 h1).2 ⟨?_, a1, a2⟩, fun hp => ?_⟩
  · have : 0 ≤ aheadL l k := by unfold aheadL; split <;> omega
    omega
  · obtain ⟨j, rfl⟩ : ∃ j, k = j + 1 := ⟨k - 1, by omega⟩
    obtain ⟨b1, b2, _⟩ := ok.lit j (by omega)
    rw [Nat.add_sub_cancel, absW_small (by omega) (by omega), absW_small (by omega) (by omega)]
    exact a3
theorem steps_cvok {l : List Int} {a : Int} (h0 : 0 ≤ a) (h1 : a ≤ 700) (h : ∀ k, k < l.length → stepW l a k) : CvOk l a := by
  refine ⟨h0, h1, fun k hk => ?_⟩
  obtain ⟨a1, a2⟩ := h k hk
  obtain ⟨c1, c2, c3⟩ := (litW_iff h0 h1).1 a1
  refine ⟨c2, c3, ?_⟩
  match k, hk, a2, c1, c2, c3 with
  | 0, _, _, c1, _, _ => show (0 : Int) < _; omega
  | j + 1, hk, a2, _, c2, c3 =>
    obtain ⟨b1, b2, b3⟩ := (litW_iff h0 h1).1 (h j (by omega)).1
    have := a2 (by omega)
    rw [Nat.add_sub_cancel, absW_small (by omega) (by omega), absW_small (by omega) (by omega)] at this
    exact this
noncomputable def csVB (s : Cs) : Bool := csvB s.atoms s.list
end Go.Proofs.YthlkbkomecnbaaaDoor
