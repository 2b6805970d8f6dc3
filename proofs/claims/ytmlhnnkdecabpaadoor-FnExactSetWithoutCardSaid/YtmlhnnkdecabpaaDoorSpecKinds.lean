/- The model's kinds of terms: spec.l1One, spec.l1Kind, spec.KindsOf, and both TermsValid. -/
import Derived.Test.YtmlhnnkdecabpaaDoorKinds
namespace Go.Proofs.YtmlhnnkdecabpaaDoor
open Go.RowKit

theorem l1One_any (op : Int) (w : World) : Calls Tryd.prog 109 #[.int .i64 op] w fun e w' => e = .returned (.bool (op == 7)) ∧ w = w' := by
  go_enter Tryd.func109, Tryd.ntmps109
  go_wp2
  go_ret
  exact ⟨rfl, rfl⟩

section
variable (A : Option Addr) (n c : Nat) (ks : List Int) (vars tn a b : Int) (w : World)

set_option maxHeartbeats 1600000 in
theorem l1Kind_0 : Calls Tryd.prog 97 #[.agg #[.int .i64 0, .int .i64 tn, .int .i64 a, .int .i64 b], .slice A n c, .int .i64 vars] w (GivesInt w (kind ⟨0, tn, a, b⟩ ks vars)) := by
  have e : kind ⟨0, tn, a, b⟩ ks vars = kIf ((a == 0) && ((b == 0) && inB tn (-9999) 9999)) 1 := rfl
  rw [e]; clear e
  have q : inB 0 2 9 = false := rfl
  cases ha : a == 0 <;> cases hb : b == 0 <;> cases hc : inB tn (-9999) 9999
  all_goals
    go_enter Tryd.func97, Tryd.ntmps97
    go_wp2_with (first | (go_at_call 70; refine (l1In_any _ _ _ _).mono ?_; rintro e w' ⟨rfl, rfl⟩))
    go_ret
    exact ⟨rfl, (Below.refl _ _).alloc (Nat.le_refl _) _⟩

set_option maxHeartbeats 1600000 in
theorem l1Kind_1 (hv : -9000 ≤ vars) (hv' : vars ≤ 9000) : Calls Tryd.prog 97 #[.agg #[.int .i64 1, .int .i64 tn, .int .i64 a, .int .i64 b], .slice A n c, .int .i64 vars] w (GivesInt w (kind ⟨1, tn, a, b⟩ ks vars)) := by
  have e : kind ⟨1, tn, a, b⟩ ks vars = kIf ((a == 0) && ((b == 0) && inB tn 0 (vars - 1))) 1 := by
    unfold kind inB; dsimp only; rw [if_neg (by decide), if_pos rfl, show decide (tn < vars) = decide (tn ≤ vars - 1) from by rw [decide_eq_decide]; omega]
  rw [e]; clear e
  have q : inB 1 2 9 = false := rfl
  cases ha : a == 0 <;> cases hb : b == 0 <;> cases hc : inB tn 0 (vars - 1)
  all_goals
    go_enter Tryd.func97, Tryd.ntmps97
    go_wp2_with (first | (go_at_call 70; refine (l1In_any _ _ _ _).mono ?_; rintro e w' ⟨rfl, rfl⟩))
    go_ret
    exact ⟨rfl, (Below.refl _ _).alloc (Nat.le_refl _) _⟩

set_option maxHeartbeats 1600000 in
theorem l1Kind_else (op : Int) (hop : op < 0 ∨ 9 < op) : Calls Tryd.prog 97 #[.agg #[.int .i64 op, .int .i64 tn, .int .i64 a, .int .i64 b], .slice A n c, .int .i64 vars] w (GivesInt w (kind ⟨op, tn, a, b⟩ ks vars)) := by
  have e : kind ⟨op, tn, a, b⟩ ks vars = 0 := by
    unfold kind
    dsimp only
    rw [if_neg (by omega), if_neg (by omega), if_neg (by omega), if_neg (by omega), if_neg (by omega), if_neg (by omega)]
  rw [e]; clear e
  have g0 : (op == 0) = false := beq_eq_false_iff_ne.2 (by omega)
  have g1 : (op == 1) = false := beq_eq_false_iff_ne.2 (by omega)
  have q : inB op 2 9 = false := by simp [inB]; omega
  go_enter Tryd.func97, Tryd.ntmps97
  go_wp2_with (first | (go_at_call 70; refine (l1In_any _ _ _ _).mono ?_; rintro e w' ⟨rfl, rfl⟩))
  go_ret
  exact ⟨rfl, (Below.refl _ _).alloc (Nat.le_refl _) _⟩

/-- Operations of two: what is wanted, what is given. -/
def OpTwo (op k k' : Int) : Prop := (op = 2 ∧ k = 1 ∧ k' = 1) ∨ (op = 3 ∧ k = 1 ∧ k' = 1) ∨ (op = 4 ∧ k = 1 ∧ k' = 1) ∨ (op = 5 ∧ k = 1 ∧ k' = 2) ∨ (op = 6 ∧ k = 1 ∧ k' = 2) ∨ (op = 8 ∧ k = 2 ∧ k' = 2) ∨ (op = 9 ∧ k = 2 ∧ k' = 2)

set_option maxHeartbeats 4000000 in
theorem l1Kind_bad (op k k' : Int) (hop : OpTwo op k k' ∨ (op = 7 ∧ k = 2 ∧ k' = 2)) (hn : n ≤ 40) (hbad : (tn == 0) = false ∨ ((tn == 0) = true ∧ inB a 0 ((n : Int) - 1) = false) ∨ ((tn == 0) = true ∧ inB a 0 ((n : Int) - 1) = true ∧ inB b 0 ((n : Int) - 1) = false)) :
    Calls Tryd.prog 97 #[.agg #[.int .i64 op, .int .i64 tn, .int .i64 a, .int .i64 b], .slice A n c, .int .i64 vars] w (GivesInt w 0) := by
  have q : inB op 2 9 = true := by unfold OpTwo at hop; simp [inB]; omega
  have ho : 2 ≤ op ∧ op ≤ 9 := by unfold OpTwo at hop; omega
  have g0 : (op == 0) = false := beq_eq_false_iff_ne.2 (by omega)
  have g1 : (op == 1) = false := beq_eq_false_iff_ne.2 (by omega)
  clear hop ho
  rcases hbad with h1 | ⟨h1, h2⟩ | ⟨h1, h2, h3⟩
  all_goals
    first | have h1' := bne_f h1 | have h1' := bne_t h1
    go_enter Tryd.func97, Tryd.ntmps97
    go_wp2_with (first | (go_at_call 70; refine (l1In_any _ _ _ _).mono ?_; rintro e w' ⟨rfl, rfl⟩))
    go_ret
    exact ⟨rfl, (Below.refl _ _).alloc (Nat.le_refl _) _⟩

set_option maxHeartbeats 4000000 in
theorem l1Kind_in (op k k' : Int) (hop : OpTwo op k k') (hn : n ≤ 40) (p q : Nat) (hp : p < n) (hq : q < n) (h : Rd w w.heap.size 1 A n (ints ks)) :
    Calls Tryd.prog 97 #[.agg #[.int .i64 op, .int .i64 0, .int .i64 p, .int .i64 q], .slice A n c, .int .i64 vars] w (GivesInt w (kIf ((ix ks p == k) && (ix ks q == k)) k')) := by
  have q1 : inB op 2 9 = true := by unfold OpTwo at hop; simp [inB]; omega
  have q2 : inB p 0 ((n : Int) - 1) = true := by simp [inB]; omega
  have q3 : inB q 0 ((n : Int) - 1) = true := by simp [inB]; omega
  have q4 : (op == 7) = false := by unfold OpTwo at hop; rw [beq_eq_false_iff_ne]; omega
  obtain ⟨ad, rfl, hb1, hc1⟩ := h.int hp
  obtain ⟨ad', e, hb2, hc2⟩ := h.int hq
  injection e with e; subst e
  have hc1 := cell_alloc hb1 hc1
  have hc2 := cell_alloc hb1 hc2
  clear h
  have e0 : (op == 0) = false := beq_eq_false_iff_ne.2 (by unfold OpTwo at hop; omega)
  have e1 : (op == 1) = false := beq_eq_false_iff_ne.2 (by unfold OpTwo at hop; omega)
  have hcl : (op < 5 ∧ k = 1 ∧ k' = 1) ∨ (5 ≤ op ∧ op < 7 ∧ k = 1 ∧ k' = 2) ∨ (7 ≤ op ∧ 5 ≤ op ∧ k = 2 ∧ k' = 2) := by unfold OpTwo at hop; omega
  clear hop
  rcases hcl with ⟨o1, rfl, rfl⟩ | ⟨o1, o2, rfl, rfl⟩ | ⟨o1, o2, rfl, rfl⟩
  all_goals
    first | have d5 : decide (5 ≤ op) = true := decide_eq_true (by omega) | have d5 : decide (5 ≤ op) = false := decide_eq_false (by omega)
    first | have d7 : decide (7 ≤ op) = true := decide_eq_true (by omega) | have d7 : decide (7 ≤ op) = false := decide_eq_false (by omega)
  · cases g1 : ix ks p == 1 <;> cases g2 : ix ks q == 1
    all_goals
      first | have g1' := bne_f g1 | have g1' := bne_t g1
      first | have g2' := bne_f g2 | have g2' := bne_t g2
      go_enter Tryd.func97, Tryd.ntmps97
      go_wp2_with (first | (go_at_call 70; refine (l1In_any _ _ _ _).mono ?_; rintro e w' ⟨rfl, rfl⟩) | (go_at_call 109; refine (l1One_any _ _).mono ?_; rintro e w' ⟨rfl, rfl⟩))
      go_ret
      exact ⟨rfl, (Below.refl _ _).alloc (Nat.le_refl _) _⟩
  · cases g1 : ix ks p == 1 <;> cases g2 : ix ks q == 1
    all_goals
      first | have g1' := bne_f g1 | have g1' := bne_t g1
      first | have g2' := bne_f g2 | have g2' := bne_t g2
      go_enter Tryd.func97, Tryd.ntmps97
      go_wp2_with (first | (go_at_call 70; refine (l1In_any _ _ _ _).mono ?_; rintro e w' ⟨rfl, rfl⟩) | (go_at_call 109; refine (l1One_any _ _).mono ?_; rintro e w' ⟨rfl, rfl⟩))
      go_ret
      exact ⟨rfl, (Below.refl _ _).alloc (Nat.le_refl _) _⟩
  · cases g1 : ix ks p == 2 <;> cases g2 : ix ks q == 2
    all_goals
      first | have g1' := bne_f g1 | have g1' := bne_t g1
      first | have g2' := bne_f g2 | have g2' := bne_t g2
      go_enter Tryd.func97, Tryd.ntmps97
      go_wp2_with (first | (go_at_call 70; refine (l1In_any _ _ _ _).mono ?_; rintro e w' ⟨rfl, rfl⟩) | (go_at_call 109; refine (l1One_any _ _).mono ?_; rintro e w' ⟨rfl, rfl⟩))
      go_ret
      exact ⟨rfl, (Below.refl _ _).alloc (Nat.le_refl _) _⟩
end
end Go.Proofs.YtmlhnnkdecabpaaDoor
