/- The run over states: plain lists. -/
import Derived.Test.YtdecjkfokilgoaaTv
import Derived.Test.YtdecjkfokilgoaaBtw2
namespace Go.Proofs.Ytdecjkfokilgoaa
open Go.RowKit

theorem firstHit_yes {hit : Nat → Bool} : ∀ {n : Nat}, 0 ≤ firstHit hit n → (firstHit hit n).toNat < n ∧ hit (firstHit hit n).toNat = true
  | 0, h => by unfold firstHit at h; omega
  | n + 1, h => by
    unfold firstHit at h ⊢
    by_cases e : firstHit hit n ≠ -1
    · rw [if_pos e] at h ⊢
      have := firstHit_yes h
      exact ⟨by omega, this.2⟩
    · rw [if_neg e] at h ⊢
      by_cases z : hit n = true
      · rw [if_pos z]; exact ⟨by simp, by simpa using z⟩
      · rw [if_neg z] at h; omega
theorem firstHit_lo {hit : Nat → Bool} : ∀ {n : Nat}, -1 ≤ firstHit hit n ∧ firstHit hit n < n
  | 0 => by unfold firstHit; omega
  | n + 1 => by
    have := firstHit_lo (hit := hit) (n := n)
    unfold firstHit
    split
    · omega
    · split <;> omega
/-- The first rule between two states, no matter whether they are ones. -/
def btwR (s : Sy) (a b : List Int) : Int := firstHit (hitB s a b) s.rules.length
/-- The first k rules over states. -/
def ofR (s : Sy) (L : List (List Int)) (k : Nat) : List Int := (List.range k).map fun i => btwR s (el L i) (el L (i + 1))
theorem ofR_len (s : Sy) (L : List (List Int)) (k : Nat) : (ofR s L k).length = k := by simp [ofR]
theorem ofR_succ (s : Sy) (L : List (List Int)) (k : Nat) : ofR s L (k + 1) = ofR s L k ++ [btwR s (el L k) (el L (k + 1))] := by unfold ofR; rw [List.range_succ, List.map_append]; rfl
theorem ofR_at (s : Sy) (L : List (List Int)) {k i : Nat} (h : i < k) : ix (ofR s L k) i = btwR s (el L i) (el L (i + 1)) := by
  unfold ix ofR; simp [h]
/-- Whether there are rules between the first k + 1 states. -/
def ofGo (s : Sy) (L : List (List Int)) : Nat → Bool
  | 0 => true
  | k + 1 => ofGo s L k && decide (0 ≤ btwR s (el L k) (el L (k + 1)))
theorem ofGo_at {s : Sy} {L : List (List Int)} : ∀ {k : Nat}, ofGo s L k = true → ∀ i, i < k → 0 ≤ btwR s (el L i) (el L (i + 1))
  | 0, _, i, hi => by omega
  | k + 1, h, i, hi => by
    unfold ofGo at h
    rw [Bool.and_eq_true, decide_eq_true_eq] at h
    by_cases e : i < k
    · exact ofGo_at h.1 i e
    · obtain rfl : i = k := by omega
      exact h.2
theorem ofGo_stop {s : Sy} {L : List (List Int)} {k : Nat} (h : btwR s (el L k) (el L (k + 1)) < 0) : ∀ {n : Nat}, k < n → ofGo s L n = false
  | 0, hn => by omega
  | n + 1, hn => by
    unfold ofGo
    by_cases e : k < n
    · rw [ofGo_stop h e]; rfl
    · obtain rfl : k = n := by omega
      rw [decide_eq_false (by omega)]; simp
def ofB (s : Sy) (L : List (List Int)) : Bool := (sysB s && (decide (1 ≤ L.length) && decide (L.length ≤ 500))) && (decide (el L 0 = firsts s.vars) && ofGo s L (L.length - 1))
def ofS (s : Sy) (L : List (List Int)) : List (List Int) := if ofB s L then L else []
def ofRs (s : Sy) (L : List (List Int)) : List Int := if ofB s L then ofR s L (L.length - 1) else []
theorem of_step {s : Sy} {a b : List Int} (h : 0 ≤ btwR s a b) : stepOk s a (btwR s a b) = true ∧ useL s a (btwR s a b).toNat = b := by
  obtain ⟨h1, h2⟩ := firstHit_yes h
  unfold hitB at h2
  rw [Bool.and_eq_true, decide_eq_true_eq] at h2
  refine ⟨?_, h2.2⟩
  unfold stepOk ruleIn
  have h3 : useB s a (btwR s a b).toNat = true := h2.1
  have h4 : (btwR s a b).toNat < s.rules.length := h1
  rw [h3]; simp; omega
theorem of_trOk {s : Sy} {L : List (List Int)} {n : Nat} (h : ∀ i, i < n → 0 ≤ btwR s (el L i) (el L (i + 1))) : ∀ {k : Nat}, k ≤ n → trOk s ⟨L, ofR s L n⟩ k = true
  | 0, _ => rfl
  | k + 1, hk => by
    unfold trOk
    rw [of_trOk h (by omega : k ≤ n)]
    obtain ⟨h1, h2⟩ := of_step (h k (by omega))
    simp only [ofR_at s L (show k < n by omega), h1, h2, decide_true, Bool.and_self]
theorem of_parts {s : Sy} {L : List (List Int)} (h : ofB s L = true) : sysB s = true ∧ 1 ≤ L.length ∧ L.length ≤ 500 ∧ el L 0 = firsts s.vars ∧ ofGo s L (L.length - 1) = true := by
  unfold ofB at h
  simp only [Bool.and_eq_true, decide_eq_true_eq] at h
  exact ⟨h.1.1, h.1.2.1, h.1.2.2, h.2.1, h.2.2⟩
/-- The run of the rules found goes over the states themselves. -/
theorem of_rep {s : Sy} {L : List (List Int)} (h : ofB s L = true) : repS s (ofR s L (L.length - 1)) = L ∧ repR s (ofR s L (L.length - 1)) = ofR s L (L.length - 1) := by
  obtain ⟨h1, h2, h3, h4, h5⟩ := of_parts h
  have ht : traceB s ⟨L, ofR s L (L.length - 1)⟩ = true := by
    unfold traceB
    simp only [Bool.and_eq_true, decide_eq_true_eq, ofR_len]
    exact ⟨h1, ⟨h2, h3⟩, by omega, h4, of_trOk (ofGo_at h5) (Nat.le_refl _)⟩
  rw [trace_eq] at ht
  simp only [Bool.and_eq_true, decide_eq_true_eq] at ht
  obtain ⟨t1, t2, t3⟩ := ht
  refine ⟨t3, ?_⟩
  have hok : repOk s (ofR s L (L.length - 1)) = true := by unfold repOk; rw [h1, ofR_len, decide_eq_true (by omega)]; rfl
  unfold repK at t2
  unfold repR
  rw [if_pos hok] at t2 ⊢
  rw [List.take_of_length_le (by omega)]
theorem ofS_rep (s : Sy) (L : List (List Int)) (h : ofB s L = true) : ofS s L = repS s (ofRs s L) ∧ ofRs s L = repR s (ofRs s L) := by
  unfold ofS ofRs
  rw [if_pos h, if_pos h, (of_rep h).1, (of_rep h).2]
  exact ⟨rfl, rfl⟩
theorem ofS_sz (s : Sy) (L : List (List Int)) : szII (ofS s L) ≤ 1048576 := by
  cases h : ofB s L
  · unfold ofS; rw [if_neg (by simp [h])]; unfold szII; simp [sumTo]
  · rw [(ofS_rep s L h).1]; exact repS_sz _ _
theorem ofRs_len (s : Sy) (L : List (List Int)) : (ofRs s L).length ≤ 1000000 := by
  cases h : ofB s L
  · unfold ofRs; rw [if_neg (by simp [h])]; simp
  · rw [(ofS_rep s L h).2]; exact repR_len _ _
end Go.Proofs.Ytdecjkfokilgoaa
