/- The model's kinds of terms, whole: spec.l1Kind, spec.KindsOf, and both TermsValid. -/
import Derived.Test.YtmlhnnkdecabpaaDoorSpecKinds
namespace Go.Proofs.YtmlhnnkdecabpaaDoor
open Go.RowKit

section
variable (A : Option Addr) (n c : Nat) (ks : List Int) (vars : Int) (w : World)
set_option maxHeartbeats 4000000 in
theorem l1Kind_7 (hn : n ≤ 40) (p q : Nat) (hp : p < n) (hq : q < n) (h : Rd w w.heap.size 1 A n (ints ks)) :
    Calls Tryd.prog 97 #[.agg #[.int .i64 7, .int .i64 0, .int .i64 p, .int .i64 q], .slice A n c, .int .i64 vars] w (GivesInt w (kIf (((p : Int) == q) && ((ix ks p == 2) && (ix ks q == 2))) 2)) := by
  have q1 : inB 7 2 9 = true := by decide
  have q2 : inB p 0 ((n : Int) - 1) = true := by simp [inB]; omega
  have q3 : inB q 0 ((n : Int) - 1) = true := by simp [inB]; omega
  obtain ⟨ad, rfl, hb1, hc1⟩ := h.int hp
  obtain ⟨ad', e, hb2, hc2⟩ := h.int hq
  injection e with e; subst e
  have hc1 := cell_alloc hb1 hc1
  have hc2 := cell_alloc hb1 hc2
  clear h
  by_cases e : p = q
  · subst e
    rw [show ((p : Int) == p) = true by simp]
    cases g1 : ix ks p == 2
    all_goals
      first | have g1' := bne_f g1 | have g1' := bne_t g1
      go_enter Tryd.func97, Tryd.ntmps97
      go_wp2_with (first | (go_at_call 70; refine (l1In_any _ _ _ _).mono ?_; rintro e w' ⟨rfl, rfl⟩) | (go_at_call 109; refine (l1One_any _ _).mono ?_; rintro e w' ⟨rfl, rfl⟩))
      go_ret
      exact ⟨rfl, (Below.refl _ _).alloc (Nat.le_refl _) _⟩
  · have f : ((p : Int) == q) = false := by rw [beq_eq_false_iff_ne]; omega
    have f' : ((q : Int) != p) = true := by simp; omega
    rw [f]
    cases g1 : ix ks p == 2 <;> cases g2 : ix ks q == 2
    all_goals
      first | have g1' := bne_f g1 | have g1' := bne_t g1
      first | have g2' := bne_f g2 | have g2' := bne_t g2
      go_enter Tryd.func97, Tryd.ntmps97
      go_wp2_with (first | (go_at_call 70; refine (l1In_any _ _ _ _).mono ?_; rintro e w' ⟨rfl, rfl⟩) | (go_at_call 109; refine (l1One_any _ _).mono ?_; rintro e w' ⟨rfl, rfl⟩))
      go_ret
      exact ⟨rfl, (Below.refl _ _).alloc (Nat.le_refl _) _⟩
end

theorem kindAt_nat {ks : List Int} {p : Nat} {k : Int} (h : p < ks.length) : kindAt ks p k = (ix ks p == k) := by
  rw [kindAt_in (by omega) (by omega), Int.toNat_natCast]
theorem kind_of_two {op k k' tn a b vars : Int} {ks : List Int} (h : OpTwo op k k') : kind ⟨op, tn, a, b⟩ ks vars = kIf (ofTwo ⟨op, tn, a, b⟩ ks k) k' := by
  rcases h with ⟨rfl, rfl, rfl⟩ | ⟨rfl, rfl, rfl⟩ | ⟨rfl, rfl, rfl⟩ | ⟨rfl, rfl, rfl⟩ | ⟨rfl, rfl, rfl⟩ | ⟨rfl, rfl, rfl⟩ | ⟨rfl, rfl, rfl⟩ <;> rfl
theorem kIf_false (k : Int) : kIf false k = 0 := rfl
theorem inB_iff {x lo hi : Int} : inB x lo hi = true ↔ lo ≤ x ∧ x ≤ hi := by simp [inB]
theorem inB_not {x lo hi : Int} : inB x lo hi = false ↔ x < lo ∨ hi < x := by
  simp only [inB, Bool.and_eq_false_iff, decide_eq_false_iff_not]; omega

theorem l1Kind_any (t : Tm) (A : Option Addr) (n c : Nat) (ks : List Int) (vars : Int) (w : World) (h : Rd w w.heap.size 1 A n (ints ks)) (hn : n ≤ 40) (hv : -9000 ≤ vars) (hv' : vars ≤ 9000) :
    Calls Tryd.prog 97 #[t.v, .slice A n c, .int .i64 vars] w (GivesInt w (kind t ks vars)) := by
  obtain ⟨op, tn, a, b⟩ := t
  show Calls Tryd.prog 97 #[.agg #[.int .i64 op, .int .i64 tn, .int .i64 a, .int .i64 b], .slice A n c, .int .i64 vars] w _
  by_cases h0 : op < 0 ∨ 9 < op
  · exact l1Kind_else A n c ks vars tn a b w op h0
  by_cases h1 : op = 0
  · subst h1; exact l1Kind_0 A n c ks vars tn a b w
  by_cases h2 : op = 1
  · subst h2; exact l1Kind_1 A n c ks vars tn a b w hv hv'
  have hl := h.len
  have ho : ∃ k k', OpTwo op k k' ∨ (op = 7 ∧ k = 2 ∧ k' = 2) := by
    by_cases e7 : op = 7
    · exact ⟨2, 2, .inr ⟨e7, rfl, rfl⟩⟩
    · refine ⟨if op < 7 then 1 else 2, if op < 5 then 1 else 2, .inl ?_⟩
      unfold OpTwo; split <;> split <;> omega
  obtain ⟨k, k', ho⟩ := ho
  by_cases hgood : tn = 0 ∧ (0 ≤ a ∧ a < n) ∧ (0 ≤ b ∧ b < n)
  · obtain ⟨rfl, ⟨a0, a1⟩, b0, b1⟩ := hgood
    obtain ⟨p, rfl⟩ := Int.eq_ofNat_of_zero_le a0
    obtain ⟨q, rfl⟩ := Int.eq_ofNat_of_zero_le b0
    rcases ho with ho | ⟨rfl, rfl, rfl⟩
    · have e : kind ⟨op, 0, p, q⟩ ks vars = kIf ((ix ks p == k) && (ix ks q == k)) k' := by
        rw [kind_of_two ho]; unfold ofTwo; dsimp only; rw [kindAt_nat (by omega), kindAt_nat (by omega)]; rfl
      rw [e]
      exact l1Kind_in A n c ks vars w op k k' ho hn p q (by omega) (by omega) h
    · have e : kind ⟨7, 0, p, q⟩ ks vars = kIf (((p : Int) == q) && ((ix ks p == 2) && (ix ks q == 2))) 2 := by
        show kIf (((p : Int) == q) && ofTwo ⟨7, 0, p, q⟩ ks 2) 2 = _
        unfold ofTwo; dsimp only; rw [kindAt_nat (by omega), kindAt_nat (by omega)]; rfl
      rw [e]
      exact l1Kind_7 A n c ks vars w hn p q (by omega) (by omega) h
  · have e : kind ⟨op, tn, a, b⟩ ks vars = 0 := by
      have hf : ofTwo ⟨op, tn, a, b⟩ ks k = false := by
        unfold ofTwo
        dsimp only
        by_cases g1 : tn = 0
        · by_cases g2 : 0 ≤ a ∧ a < n
          · rw [kindAt_out (p := b) (by omega)]; simp
          · rw [kindAt_out (p := a) (by omega)]; simp
        · rw [beq_eq_false_iff_ne.2 g1]; rfl
      rcases ho with ho | ⟨rfl, rfl, rfl⟩
      · rw [kind_of_two ho, hf, kIf_false]
      · show kIf ((a == b) && ofTwo ⟨7, tn, a, b⟩ ks 2) 2 = 0
        rw [hf, Bool.and_false, kIf_false]
    rw [e]
    refine l1Kind_bad A n c vars tn a b w op k k' ho hn ?_
    by_cases g1 : tn = 0
    · by_cases g2 : 0 ≤ a ∧ a < n
      · exact .inr (.inr ⟨by simp [g1], inB_iff.2 (by omega), inB_not.2 (by omega)⟩)
      · exact .inr (.inl ⟨by simp [g1], inB_not.2 (by omega)⟩)
    · exact .inl (beq_eq_false_iff_ne.2 g1)
end Go.Proofs.YtmlhnnkdecabpaaDoor
