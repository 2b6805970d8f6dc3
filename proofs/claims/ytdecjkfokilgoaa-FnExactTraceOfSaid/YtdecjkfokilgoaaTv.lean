/- Whether states and rules are a run: plain lists, and the program's words. -/
import Derived.Test.YtdecjkfokilgoaaTrA
import Derived.Test.YtdecjkfokilgoaaRepI
import Derived.Test.YtdecjkfokilgoaaBtw
namespace Go.Proofs.Ytdecjkfokilgoaa
open Go.RowKit

/-- Whether the first k steps of a run are ones. -/
def trOk (s : Sy) (t : Tr) : Nat → Bool
  | 0 => true
  | k + 1 => trOk s t k && (stepOk s (el t.states k) (ix t.rules k) && decide (useL s (el t.states k) (ix t.rules k).toNat = el t.states (k + 1)))
def traceB (s : Sy) (t : Tr) : Bool := sysB s && ((decide (1 ≤ t.states.length) && decide (t.states.length ≤ 500)) && (decide (t.rules.length + 1 = t.states.length) && (decide (el t.states 0 = firsts s.vars) && trOk s t t.rules.length)))
theorem tr_run {s : Sy} {t : Tr} (h0 : el t.states 0 = firsts s.vars) : ∀ {k : Nat}, trOk s t k = true → runOk s t.rules k = true ∧ el t.states k = stAt s t.rules k
  | 0, _ => ⟨rfl, h0⟩
  | k + 1, h => by
    unfold trOk at h
    simp only [Bool.and_eq_true, decide_eq_true_eq] at h
    obtain ⟨a, b, c⟩ := h
    obtain ⟨d, e⟩ := tr_run h0 a
    rw [e] at b c
    refine ⟨?_, c.symm⟩
    show (runOk s t.rules k && stepOk s (stAt s t.rules k) (ix t.rules k)) = true
    rw [d, b]; rfl
theorem run_tr {s : Sy} {t : Tr} : ∀ {k : Nat}, (∀ i, i ≤ k → el t.states i = stAt s t.rules i) → runOk s t.rules k = true → trOk s t k = true
  | 0, _, _ => rfl
  | k + 1, h, hr => by
    have hr' := hr
    unfold runOk at hr'
    rw [Bool.and_eq_true] at hr'
    unfold trOk
    rw [run_tr (fun i hi => h i (by omega)) hr'.1, h k (by omega), hr'.2, h (k + 1) (Nat.le_refl _)]
    have e : useL s (stAt s t.rules k) (ix t.rules k).toNat = stAt s t.rules (k + 1) := rfl
    rw [e]; simp
theorem list_ext {L M : List (List Int)} (hl : L.length = M.length) (h : ∀ i, i < L.length → el L i = el M i) : L = M := by
  apply List.ext_getElem hl
  intro i h1 h2
  have := h i h1
  rwa [el_lt h1, el_lt h2] at this
/-- The program's question: whether the run of the rules has just these states. -/
theorem trace_eq (s : Sy) (t : Tr) : traceB s t = (decide (0 < (repS s t.rules).length) && (decide (repK s t.rules = t.rules.length) && decide (repS s t.rules = t.states))) := by
  apply bool_iff
  unfold traceB
  simp only [Bool.and_eq_true, decide_eq_true_eq]
  constructor
  · rintro ⟨hs, ⟨l1, l2⟩, l3, h0, hk⟩
    obtain ⟨hr, _⟩ := tr_run h0 hk
    have hok : repOk s t.rules = true := by unfold repOk; rw [hs, decide_eq_true (by omega)]; rfl
    have hn := rep_all hr
    have hS : repS s t.rules = statesTo s t.rules t.rules.length := by unfold repS; rw [if_pos hok, hn]
    have hK : repK s t.rules = t.rules.length := by unfold repK; rw [if_pos hok, hn]
    rw [hS, hK, states_len]
    refine ⟨by omega, rfl, list_ext (by rw [states_len]; omega) fun i hi => ?_⟩
    rw [states_len] at hi
    rw [states_at s t.rules (by omega)]
    have : trOk s t i = true := by
      have mono : ∀ {n m : Nat}, n ≤ m → trOk s t m = true → trOk s t n = true := by
        intro n m hnm
        induction m with
        | zero => intro h; have e : n = 0 := by omega
                  rw [e]; exact h
        | succ m ih =>
          intro h
          by_cases e : n = m + 1
          · rw [e]; exact h
          · unfold trOk at h
            rw [Bool.and_eq_true] at h
            exact ih (by omega) h.1
      exact mono (by omega) hk
    exact (tr_run h0 this).2.symm
  · rintro ⟨p, hK, hS⟩
    have hok : repOk s t.rules = true := by
      cases q : repOk s t.rules
      · unfold repS at p; rw [if_neg (by simp [q])] at p; simp at p
      · rfl
    have hS' : repS s t.rules = statesTo s t.rules (repN s t.rules t.rules.length) := by unfold repS; rw [if_pos hok]
    have hK' : repK s t.rules = repN s t.rules t.rules.length := by unfold repK; rw [if_pos hok]
    have hn : repN s t.rules t.rules.length = t.rules.length := by rw [hK'] at hK; omega
    rw [hn] at hS'
    rw [hS'] at hS
    have hr := run_rep s t.rules t.rules.length
    rw [hn] at hr
    unfold repOk at hok
    simp only [Bool.and_eq_true, decide_eq_true_eq] at hok
    have hl : t.states.length = t.rules.length + 1 := by rw [← hS, states_len]
    have hat : ∀ i, i ≤ t.rules.length → el t.states i = stAt s t.rules i := fun i hi => by rw [← hS, states_at s t.rules hi]
    exact ⟨hok.1, ⟨by omega, by omega⟩, by omega, hat 0 (by omega), run_tr hat hr⟩

theorem lists_ne_len {a b : List (List Int)} (h : a.length ≠ b.length) : decide (a = b) = false := decide_eq_false fun e => h (by rw [e])
theorem lists_ne_at {a b : List (List Int)} {k : Nat} (h : el a k ≠ el b k) : decide (a = b) = false := decide_eq_false fun e => h (by rw [e])

/-- The boxes: a system, a run. -/
theorem tv_box {w : World} {v1 v2 u1 u2 : Value} : ∀ W, Below ((w.alloc (.cells #[v1, v2] 44)).alloc (.cells #[u1, u2] 38)).heap.size ((w.alloc (.cells #[v1, v2] 44)).alloc (.cells #[u1, u2] 38)) W →
    Below w.heap.size w W ∧ (W.cell? ⟨w.heap.size, 0, none⟩ = some v1 ∧ W.cell? ⟨w.heap.size, 1, none⟩ = some v2) ∧ (W.cell? ⟨w.heap.size + 1, 0, none⟩ = some u1 ∧ W.cell? ⟨w.heap.size + 1, 1, none⟩ = some u2) ∧ w.heap.size + 2 ≤ W.heap.size := fun W hW => by
  have hs := hW.size
  rw [World.size_alloc, World.size_alloc] at hs
  have k0 := ((Blk.new w #[v1, v2] 44).alloc (.cells #[u1, u2] 38)).below hW (by simp; omega)
  have k1 := (Blk.new (w.alloc (.cells #[v1, v2] 44)) #[u1, u2] 38)
  have k1 := k1.below hW (by simp)
  rw [World.size_alloc] at k1
  exact ⟨below_call (below_call hW), ⟨k0.cell 0, k0.cell 1⟩, ⟨k1.cell 0, k1.cell 1⟩, hs⟩

end Go.Proofs.Ytdecjkfokilgoaa
