/- The run over states: what both sides use. -/
import Derived.Test.YtdecjkfokilgoaaTof
namespace Go.Proofs.Ytdecjkfokilgoaa
open Go.RowKit

theorem Mem.own_cap {α : Type} [Mem α] {w : World} {fp : List Nat} {A : Option Addr} {n c : Nat} {l : List α} (h : Mem.own w fp [.slice A n c] l) : n ≤ c := by
  obtain ⟨A', n', c', e, _, _, h⟩ := h
  injection e with e _
  injection e with _ e2 e3
  subst e2; subst e3
  rcases h with ⟨h0, _⟩ | ⟨g, t, ecs, fps, rfl, ho, _⟩
  · omega
  · rcases ho.2 with ⟨e, _⟩ | ⟨g', cap, cur, e, _, _, h1, _⟩
    · injection e with e; injection e
    · injection e with _ _ e3
      omega
/-- A run and a truth. -/
def GivesTrB (w : World) (L : List (List Int)) (l : List Int) (z : Bool) (e : Ending) (w' : World) : Prop :=
  ∃ A n c A' n' c' f1 f2, e = .returned (.tuple #[.agg #[.slice A n c, .slice A' n' c'], .bool z]) ∧ Mem.own w' f1 [.slice A n c] L ∧ Mem.own w' f2 [.slice A' n' c'] l ∧ (f1 ++ f2).Nodup ∧ (∀ x ∈ f1 ++ f2, w.heap.size ≤ x) ∧ Below w.heap.size w w'
theorem of_fin {w W : World} {e e' : TypeId} {vS vR a b : Value} {k k' : Nat} {L : List (List Int)} {l : List Int} {fS fR : List Nat} {z : Bool} (hb : Below w.heap.size w W) (h : LL W (w.heap.size + 2) e vS k L fS) (h' : IL W (w.heap.size + 2) e' vR k' l fR) (hk : k ≤ maxLen) (hk' : k' ≤ maxLen) (hd : ∀ b ∈ fS, b ∉ fR) :
    GivesTrB w L l z (.returned (.tuple #[.agg #[vS, vR], .bool z])) ((W.setCell ⟨w.heap.size + 1, 0, none⟩ a).setCell ⟨w.heap.size + 1, 1, none⟩ b) := by
  obtain ⟨A, n, c, A', n', c', f1, f2, h1, h2⟩ := rep_fin (z := 0) (a := a) (b := b) hb h h' hk hk' hd
  obtain ⟨AS, cS, rfl⟩ := row_slice h.2.2.choose_spec.choose_spec.1
  obtain ⟨AR, cR, rfl⟩ := row_slice h'.1
  have e1 := congrArg (fun v => match v with | Ending.returned (.tuple vs) => vs[0]? | _ => none) h1
  simp at e1
  obtain ⟨⟨rfl, rfl, rfl⟩, rfl, rfl, rfl⟩ := e1
  exact ⟨_, _, _, _, _, _, f1, f2, rfl, h2⟩
theorem of_no {s : Sy} {L : List (List Int)} (h : ofB s L = false) : ofS s L = [] ∧ ofRs s L = [] := by
  unfold ofS ofRs; rw [h]; exact ⟨rfl, rfl⟩
theorem of_stop {s : Sy} {L : List (List Int)} {k : Nat} (h : btwR s (el L k) (el L (k + 1)) < 0) (hk : k + 1 < L.length) : ofB s L = false := by
  unfold ofB
  rw [ofGo_stop h (show k < L.length - 1 by omega)]
  simp
theorem btw_has {s : Sy} {a b : List Int} (h : 0 ≤ btwR s a b) : hasB s.vars b = true := by
  obtain ⟨h1, h2⟩ := firstHit_yes h
  unfold hitB at h2
  rw [Bool.and_eq_true, decide_eq_true_eq] at h2
  rw [← h2.2]
  exact use_has h2.1

theorem of_yes {s : Sy} {L : List (List Int)} {n : Nat} (hz : sysB s = true) (hl : L.length = n) (hn : 1 ≤ n ∧ n ≤ 500) (h0 : el L 0 = firsts s.vars) (h : ofGo s L (n - 1) = true) : ofB s L = true := by
  unfold ofB
  rw [hz, hl, h, decide_eq_true hn.1, decide_eq_true hn.2, decide_eq_true h0]; rfl
end Go.Proofs.Ytdecjkfokilgoaa
