/- Clauses as text (plain). -/
import Derived.Test.YthlkbkomecnbaaaDoorKcP
import Derived.Test.YthlkbkomecnbaaaDoorTxD
namespace Go.Proofs.YthlkbkomecnbaaaDoor
open Go.RowKit

def hdrT (m : Int) (n : Nat) : List UInt8 := [112, 32, 99, 110, 102, 32] ++ Lib.itoa m ++ [32] ++ Lib.itoa n ++ [10]
def litsT (l : List Int) : Nat → List UInt8
  | 0 => []
  | k + 1 => litsT l k ++ (Lib.itoa (ix l k) ++ [32])
def textTo (m : Int) (L : List (List Int)) : Nat → List UInt8
  | 0 => hdrT m L.length
  | k + 1 => textTo m L k ++ litsT (el L k) (el L k).length ++ [48, 10]
noncomputable def csTextL (s : Cs) : List UInt8 := if csVB s = true ∧ (textTo s.atoms s.list s.list.length).length ≤ 4000 then textTo s.atoms s.list s.list.length else []
noncomputable def csTextB (s : Cs) : ByteArray := tB (csTextL s)
theorem textTo_mono (m : Int) (L : List (List Int)) {k n : Nat} (h : k ≤ n) : (textTo m L k).length ≤ (textTo m L n).length := by
  induction n with
  | zero => obtain rfl : k = 0 := by omega
            exact Nat.le_refl _
  | succ n ih =>
    by_cases e : k = n + 1
    · subst e; exact Nat.le_refl _
    · have := ih (by omega)
      show _ ≤ (textTo m L n ++ litsT (el L n) (el L n).length ++ [48, 10]).length
      rw [List.length_append, List.length_append]; omega
theorem csTextL_no {s : Cs} (h : csVB s = false) : csTextL s = [] := by unfold csTextL; rw [if_neg (by rw [h]; simp)]
theorem csTextL_long {s : Cs} {k : Nat} (hk : k ≤ s.list.length) (h : 4000 < (textTo s.atoms s.list k).length) : csTextL s = [] := by
  unfold csTextL
  rw [if_neg]
  rintro ⟨_, h2⟩
  have := textTo_mono s.atoms s.list hk
  omega
theorem csTextL_yes {s : Cs} (h : csVB s = true) (h2 : (textTo s.atoms s.list s.list.length).length ≤ 4000) : csTextL s = textTo s.atoms s.list s.list.length := by unfold csTextL; rw [if_pos ⟨h, h2⟩]
theorem itoa_len {n : Int} (h0 : -1000000 ≤ n) (h1 : n ≤ 1000000) : (Lib.itoa n).length ≤ 21 := Lib.itoa_length_le n (by omega) (by omega)
theorem hdrT_len {m : Int} {n : Nat} (h0 : 0 ≤ m) (h1 : m ≤ 1000000) (h2 : n ≤ 1000000) : (hdrT m n).length ≤ 50 := by
  have := itoa_len (n := m) (by omega) h1
  have := itoa_len (n := (n : Int)) (by omega) (by omega)
  unfold hdrT
  simp only [List.length_append, List.length_cons, List.length_nil]
  omega
theorem litsT_len {l : List Int} : ∀ {k : Nat}, (∀ i, i < k → -1000000 ≤ ix l i ∧ ix l i ≤ 1000000) → (litsT l k).length ≤ 22 * k
  | 0, _ => Nat.le_refl _
  | k + 1, h => by
    have h1 := litsT_len (k := k) fun i hi => h i (by omega)
    have h2 := itoa_len (h k (by omega)).1 (h k (by omega)).2
    show (litsT l k ++ (Lib.itoa (ix l k) ++ [32])).length ≤ _
    rw [List.length_append, List.length_append, List.length_singleton]; omega
/-- A clause's literals. -/
theorem cv_lits {l : List Int} {a : Int} (ok : CvOk l a) : l.length ≤ 700 ∧ ∀ i, i < l.length → -700 ≤ ix l i ∧ ix l i ≤ 700 := by
  have h1 := ok.hi
  refine ⟨?_, fun i hi => by obtain ⟨a1, a2, _⟩ := ok.lit i hi; omega⟩
  have hk : ∀ k, k < l.length → k + 1 ≤ (ix l k).natAbs := by
    intro k
    induction k with
    | zero => intro hk; have h1 := (ok.lit 0 hk).2.2; have h2 : aheadL l 0 = 0 := rfl; omega
    | succ k ih => intro hk; have := ih (by omega); have h1 := (ok.lit (k + 1) hk).2.2; have h2 : aheadL l (k + 1) = ((ix l k).natAbs : Int) := rfl; omega
  by_cases e : l.length = 0
  · omega
  · have h2 := hk (l.length - 1) (by omega)
    obtain ⟨b1, b2, _⟩ := ok.lit (l.length - 1) (by omega)
    omega
end Go.Proofs.YthlkbkomecnbaaaDoor
