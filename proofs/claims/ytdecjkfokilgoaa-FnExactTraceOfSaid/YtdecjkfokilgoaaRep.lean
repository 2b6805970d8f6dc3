/- Runs of rules: plain lists. -/
import Derived.Test.YtdecjkfokilgoaaRun4
import Derived.Test.YtdecjkfokilgoaaIl
namespace Go.Proofs.Ytdecjkfokilgoaa
open Go.RowKit

def usableTo (s : Sy) (st : List Int) : Nat → List Int
  | 0 => []
  | k + 1 => if useB s st k = true then usableTo s st k ++ [(k : Int)] else usableTo s st k
def usableB (s : Sy) (st : List Int) : List Int := if inRangeB s st then usableTo s st s.rules.length else []
theorem usableTo_len (s : Sy) (st : List Int) : ∀ k, (usableTo s st k).length ≤ k
  | 0 => by simp [usableTo]
  | k + 1 => by
    have := usableTo_len s st k
    unfold usableTo
    by_cases h : useB s st k = true
    · rw [if_pos h]; simp; omega
    · rw [if_neg h]; omega
theorem usable_yes {s : Sy} {st : List Int} {k : Nat} (h : useB s st k = true) : usableTo s st (k + 1) = usableTo s st k ++ [(k : Int)] := by show (if _ then _ else _) = _; rw [if_pos h]
theorem usable_no {s : Sy} {st : List Int} {k : Nat} (h : useB s st k = false) : usableTo s st (k + 1) = usableTo s st k := by show (if _ then _ else _) = _; rw [if_neg (by simp [h])]
theorem usableB_len (s : Sy) (st : List Int) : (usableB s st).length ≤ 1000000 := by
  unfold usableB
  cases h : inRangeB s st
  · simp
  · have := (inRange_parts h).1.most
    have := usableTo_len s st s.rules.length
    rw [if_pos rfl]; omega

end Go.Proofs.Ytdecjkfokilgoaa
namespace Go.Proofs.Ytdecjkfokilgoaa
open Go.RowKit

def stepOk (s : Sy) (a : List Int) (r : Int) : Bool := ruleIn s r && useB s a r.toNat
/-- The state behind k rules. -/
def stAt (s : Sy) (rs : List Int) : Nat → List Int
  | 0 => firsts s.vars
  | k + 1 => useL s (stAt s rs k) (ix rs k).toNat
/-- Whether the first k rules may all be used. -/
def runOk (s : Sy) (rs : List Int) : Nat → Bool
  | 0 => true
  | k + 1 => runOk s rs k && stepOk s (stAt s rs k) (ix rs k)
/-- How many of the first k rules are used. -/
def repN (s : Sy) (rs : List Int) : Nat → Nat
  | 0 => 0
  | k + 1 => if runOk s rs (k + 1) = true then k + 1 else repN s rs k
theorem rep_all {s : Sy} {rs : List Int} : ∀ {k : Nat}, runOk s rs k = true → repN s rs k = k
  | 0, _ => rfl
  | k + 1, h => by unfold repN; rw [if_pos h]
theorem run_less {s : Sy} {rs : List Int} {k : Nat} (h : runOk s rs (k + 1) = true) : runOk s rs k = true := by
  unfold runOk at h; rw [Bool.and_eq_true] at h; exact h.1
theorem run_stop {s : Sy} {rs : List Int} {k : Nat} (h : runOk s rs k = true) (hs : stepOk s (stAt s rs k) (ix rs k) = false) : ∀ {n : Nat}, k < n → runOk s rs n = false ∧ repN s rs n = k
  | 0, hn => by omega
  | n + 1, hn => by
    by_cases e : k = n
    · subst e
      have q : runOk s rs (k + 1) = false := by unfold runOk; rw [hs]; simp
      refine ⟨q, ?_⟩
      unfold repN
      rw [if_neg (by simp [q]), rep_all h]
    · obtain ⟨q1, q2⟩ := run_stop h hs (n := n) (by omega)
      have q : runOk s rs (n + 1) = false := by unfold runOk; rw [q1]; rfl
      refine ⟨q, ?_⟩
      unfold repN
      rw [if_neg (by simp [q]), q2]
theorem rep_le (s : Sy) (rs : List Int) : ∀ k, repN s rs k ≤ k
  | 0 => Nat.le_refl _
  | k + 1 => by
    have := rep_le s rs k
    unfold repN
    by_cases h : runOk s rs (k + 1) = true
    · rw [if_pos h]; omega
    · rw [if_neg h]; omega
theorem run_rep (s : Sy) (rs : List Int) : ∀ k, runOk s rs (repN s rs k) = true
  | 0 => rfl
  | k + 1 => by
    unfold repN
    by_cases h : runOk s rs (k + 1) = true
    · rw [if_pos h]; exact h
    · rw [if_neg h]; exact run_rep s rs k
theorem firsts_has {s : Sy} (ok : SysOk s) : hasB s.vars (firsts s.vars) = true := by
  rw [hasB_all (firsts_len _)]
  rw [allTo_true]
  intro k hk
  have := varB_iff.1 (ok.vars k hk)
  have e : ix (firsts s.vars) k = (el s.vars k).first := by
    unfold firsts
    rw [ix_lt (by rw [List.length_map]; exact hk), List.getElem_map, el_lt hk]
  rw [e]
  simp [inB]; omega
theorem stepOk_parts {s : Sy} {a : List Int} {r : Int} (h : stepOk s a r = true) : ruleIn s r = true ∧ useB s a r.toNat = true := by
  unfold stepOk at h; rw [Bool.and_eq_true] at h; exact h
theorem use_has' {s : Sy} {st : List Int} {k : Nat} (h : useB s st k = true) : hasB s.vars (useL s st k) = true := by
  unfold useB at h
  rw [decide_eq_true_eq] at h
  unfold useL useR at h ⊢
  by_cases z : valB (el s.rules k).cond st = 0
  · rw [if_pos z] at h; simp at h
  · rw [if_neg z] at h ⊢
    by_cases z2 : hasB s.vars (madeTo (el s.rules k) st (el s.rules k).sets.length) = true
    · rw [if_pos z2]; exact z2
    · rw [if_neg z2] at h; simp at h
theorem stAt_has {s : Sy} (ok : SysOk s) {rs : List Int} : ∀ {k : Nat}, runOk s rs k = true → hasB s.vars (stAt s rs k) = true
  | 0, _ => firsts_has ok
  | k + 1, h => by
    unfold runOk at h
    rw [Bool.and_eq_true] at h
    exact use_has' (stepOk_parts h.2).2
/-- The states up to the k-th. -/
def statesTo (s : Sy) (rs : List Int) (k : Nat) : List (List Int) := (List.range (k + 1)).map (stAt s rs)
theorem states_len (s : Sy) (rs : List Int) (k : Nat) : (statesTo s rs k).length = k + 1 := by simp [statesTo]
theorem states_succ (s : Sy) (rs : List Int) (k : Nat) : statesTo s rs (k + 1) = statesTo s rs k ++ [stAt s rs (k + 1)] := by unfold statesTo; rw [List.range_succ, List.map_append]; rfl
theorem states_at (s : Sy) (rs : List Int) {k i : Nat} (h : i ≤ k) : el (statesTo s rs k) i = stAt s rs i := by
  rw [el_lt (by rw [states_len]; omega)]; simp [statesTo]
def repOk (s : Sy) (rs : List Int) : Bool := sysB s && decide (rs.length < 500)
def repS (s : Sy) (rs : List Int) : List (List Int) := if repOk s rs then statesTo s rs (repN s rs rs.length) else []
def repR (s : Sy) (rs : List Int) : List Int := if repOk s rs then rs.take (repN s rs rs.length) else []
def repK (s : Sy) (rs : List Int) : Int := if repOk s rs then repN s rs rs.length else 0
/-- The call gives a run of its own, and a number. -/
def GivesTrI (w : World) (L : List (List Int)) (l : List Int) (z : Int) (e : Ending) (w' : World) : Prop :=
  ∃ A n c A' n' c' f1 f2, e = .returned (.tuple #[.agg #[.slice A n c, .slice A' n' c'], .int .i64 z]) ∧ Mem.own w' f1 [.slice A n c] L ∧ Mem.own w' f2 [.slice A' n' c'] l ∧ (f1 ++ f2).Nodup ∧ (∀ x ∈ f1 ++ f2, w.heap.size ≤ x) ∧ Below w.heap.size w w'
end Go.Proofs.Ytdecjkfokilgoaa
