/- spec.KindsOf and both TermsValid. -/
import Derived.Test.YthlkbkomecnbaaaKinds
namespace Go.Proofs.Ythlkbkomecnbaaa
open Go.RowKit

theorem l1One_any (op : Int) (w : World) : Calls Try.prog 173 #[.int .i64 op] w fun e w' => e = .returned (.bool (op == 7)) ∧ w = w' := by
  go_enter Try.func173, Try.ntmps173
  go_wp2
  go_ret
  exact ⟨rfl, rfl⟩

section
variable (A : Option Addr) (n c : Nat) (ks : List Int) (vars tn a b : Int) (w : World)

set_option maxHeartbeats 1600000 in
theorem l1Kind_0 : Calls Try.prog 147 #[.agg #[.int .i64 0, .int .i64 tn, .int .i64 a, .int .i64 b], .slice A n c, .int .i64 vars] w (GivesInt w (kind ⟨0, tn, a, b⟩ ks vars)) := by
  have e : kind ⟨0, tn, a, b⟩ ks vars = kIf ((a == 0) && ((b == 0) && inB tn (-9999) 9999)) 1 := rfl
  rw [e]; clear e
  have q : inB 0 2 9 = false := rfl
  cases ha : a == 0 <;> cases hb : b == 0 <;> cases hc : inB tn (-9999) 9999
  all_goals
    go_enter Try.func147, Try.ntmps147
    go_wp2_with (first | (go_at_call 48; refine (l1In_any _ _ _ _).mono ?_; rintro e w' ⟨rfl, rfl⟩))
    go_ret
    exact ⟨rfl, (Below.refl _ _).alloc (Nat.le_refl _) _⟩

set_option maxHeartbeats 1600000 in
theorem l1Kind_1 (hv : -9000 ≤ vars) (hv' : vars ≤ 9000) : Calls Try.prog 147 #[.agg #[.int .i64 1, .int .i64 tn, .int .i64 a, .int .i64 b], .slice A n c, .int .i64 vars] w (GivesInt w (kind ⟨1, tn, a, b⟩ ks vars)) := by
  have e : kind ⟨1, tn, a, b⟩ ks vars = kIf ((a == 0) && ((b == 0) && inB tn 0 (vars - 1))) 1 := by
    unfold kind inB; dsimp only; rw [if_neg (by decide), if_pos rfl, show decide (tn < vars) = decide (tn ≤ vars - 1) from by rw [decide_eq_decide]; omega]
  rw [e]; clear e
  have q : inB 1 2 9 = false := rfl
  cases ha : a == 0 <;> cases hb : b == 0 <;> cases hc : inB tn 0 (vars - 1)
  all_goals
    go_enter Try.func147, Try.ntmps147
    go_wp2_with (first | (go_at_call 48; refine (l1In_any _ _ _ _).mono ?_; rintro e w' ⟨rfl, rfl⟩))
    go_ret
    exact ⟨rfl, (Below.refl _ _).alloc (Nat.le_refl _) _⟩

set_option maxHeartbeats 1600000 in
theorem l1Kind_else (op : Int) (hop : op < 0 ∨ 9 < op) : Calls Try.prog 147 #[.agg #[.int .i64 op, .int .i64 tn, .int .i64 a, .int .i64 b], .slice A n c, .int .i64 vars] w (GivesInt w (kind ⟨op, tn, a, b⟩ ks vars)) := by
  have e : kind ⟨op, tn, a, b⟩ ks vars = 0 := by
    unfold kind
    dsimp only
    rw [if_neg (by omega), if_neg (by omega), if_neg (by omega), if_neg (by omega), if_neg (by omega), if_neg (by omega)]
  rw [e]; clear e
  have g0 : (op == 0) = false := beq_eq_false_iff_ne.2 (by omega)
  have g1 : (op == 1) = false := beq_eq_false_iff_ne.2 (by omega)
  have q : inB op 2 9 = false := by simp [inB]; omega
  go_enter Try.func147, Try.ntmps147
  go_wp2_with (first | (go_at_call 48; refine (l1In_any _ _ _ _).mono ?_; rintro e w' ⟨rfl, rfl⟩))
  go_ret
  exact ⟨rfl, (Below.refl _ _).alloc (Nat.le_refl _) _⟩

/-- Operations of two: what is wanted, what is given. -/
def OpTwo (op k k' : Int) : Prop := (op = 2 ∧ k = 1 ∧ k' = 1) ∨ (op = 3 ∧ k = 1 ∧ k' = 1) ∨ (op = 4 ∧ k = 1 ∧ k' = 1) ∨ (op = 5 ∧ k = 1 ∧ k' = 2) ∨ (op = 6 ∧ k = 1 ∧ k' = 2) ∨ (op = 8 ∧ k = 2 ∧ k' = 2) ∨ (op = 9 ∧ k = 2 ∧ k' = 2)

set_option maxHeartbeats 4000000 in
theorem l1Kind_bad (op k k' : Int) (hop : OpTwo op k k' ∨ (op = 7 ∧ k = 2 ∧ k' = 2)) (hn : n ≤ 40) (hbad : (tn == 0) = false ∨ ((tn == 0) = true ∧ inB a 0 ((n : Int) - 1) = false) ∨ ((tn == 0) = true ∧ inB a 0 ((n : Int) - 1) = true ∧ inB b 0 ((n : Int) - 1) = false)) :
    Calls Try.prog 147 #[.agg #[.int .i64 op, .int .i64 tn, .int .i64 a, .int .i64 b], .slice A n c, .int .i64 vars] w (GivesInt w 0) := by
  have q : inB op 2 9 = true := by unfold OpTwo at hop; simp [inB]; omega
  have ho : 2 ≤ op ∧ op ≤ 9 := by unfold OpTwo at hop; omega
  have g0 : (op == 0) = false := beq_eq_false_iff_ne.2 (by omega)
  have g1 : (op == 1) = false := beq_eq_false_iff_ne.2 (by omega)
  clear hop ho
  rcases hbad with h1 | ⟨h1, h2⟩ | ⟨h1, h2, h3⟩
  all_goals
    first | have h1' := bne_f h1 | have h1' := bne_t h1
    go_enter Try.func147, Try.ntmps147
    go_wp2_with (first | (go_at_call 48; refine (l1In_any _ _ _ _).mono ?_; rintro e w' ⟨rfl, rfl⟩))
    go_ret
    exact ⟨rfl, (Below.refl _ _).alloc (Nat.le_refl _) _⟩

set_option maxHeartbeats 4000000 in
theorem l1Kind_in (op k k' : Int) (hop : OpTwo op k k') (hn : n ≤ 40) (p q : Nat) (hp : p < n) (hq : q < n) (h : Rd w w.heap.size 1 A n (ints ks)) :
    Calls Try.prog 147 #[.agg #[.int .i64 op, .int .i64 0, .int .i64 p, .int .i64 q], .slice A n c, .int .i64 vars] w (GivesInt w (kIf ((ix ks p == k) && (ix ks q == k)) k')) := by
  have q1 : inB op 2 9 = true := by unfold OpTwo at hop; simp [inB]; omega
  have q2 : inB p 0 ((n : Int) - 1) = true := by simp [inB]; omega
  have q3 : inB q 0 ((n : Int) - 1) = true := by simp [inB]; omega
  have q4 : (op == 7) = false := by unfold OpTwo at hop; rw [beq_eq_false_iff_ne]; omega
  obtain ⟨ad, rfl, hb1, hc1⟩ := h.int hp
  obtain ⟨ad', e, hb2, hc2⟩ := h.int hq
  injection e with e; subst e
  have hc1 := cell_alloc hb1 hc1
  have hc2 := cell_alloc hb1 hc2
  clear h
  have e0 : (op == 0) = false := beq_eq_false_iff_ne.2 (by unfold OpTwo at hop; omega)
  have e1 : (op == 1) = false := beq_eq_false_iff_ne.2 (by unfold OpTwo at hop; omega)
  have hcl : (op < 5 ∧ k = 1 ∧ k' = 1) ∨ (5 ≤ op ∧ op < 7 ∧ k = 1 ∧ k' = 2) ∨ (7 ≤ op ∧ 5 ≤ op ∧ k = 2 ∧ k' = 2) := by unfold OpTwo at hop; omega
  clear hop
  rcases hcl with ⟨o1, rfl, rfl⟩ | ⟨o1, o2, rfl, rfl⟩ | ⟨o1, o2, rfl, rfl⟩
  all_goals
    first | have d5 : decide (5 ≤ op) = true := decide_eq_true (by omega) | have d5 : decide (5 ≤ op) = false := decide_eq_false (by omega)
    first | have d7 : decide (7 ≤ op) = true := decide_eq_true (by omega) | have d7 : decide (7 ≤ op) = false := decide_eq_false (by omega)
  · cases g1 : ix ks p == 1 <;> cases g2 : ix ks q == 1
    all_goals
      first | have g1' := bne_f g1 | have g1' := bne_t g1
      first | have g2' := bne_f g2 | have g2' := bne_t g2
      go_enter Try.func147, Try.ntmps147
      go_wp2_with (first | (go_at_call 48; refine (l1In_any _ _ _ _).mono ?_; rintro e w' ⟨rfl, rfl⟩) | (go_at_call 173; refine (l1One_any _ _).mono ?_; rintro e w' ⟨rfl, rfl⟩))
      go_ret
      exact ⟨rfl, (Below.refl _ _).alloc (Nat.le_refl _) _⟩
  · cases g1 : ix ks p == 1 <;> cases g2 : ix ks q == 1
    all_goals
      first | have g1' := bne_f g1 | have g1' := bne_t g1
      first | have g2' := bne_f g2 | have g2' := bne_t g2
      go_enter Try.func147, Try.ntmps147
      go_wp2_with (first | (go_at_call 48; refine (l1In_any _ _ _ _).mono ?_; rintro e w' ⟨rfl, rfl⟩) | (go_at_call 173; refine (l1One_any _ _).mono ?_; rintro e w' ⟨rfl, rfl⟩))
      go_ret
      exact ⟨rfl, (Below.refl _ _).alloc (Nat.le_refl _) _⟩
  · cases g1 : ix ks p == 2 <;> cases g2 : ix ks q == 2
    all_goals
      first | have g1' := bne_f g1 | have g1' := bne_t g1
      first | have g2' := bne_f g2 | have g2' := bne_t g2
      go_enter Try.func147, Try.ntmps147
      go_wp2_with (first | (go_at_call 48; refine (l1In_any _ _ _ _).mono ?_; rintro e w' ⟨rfl, rfl⟩) | (go_at_call 173; refine (l1One_any _ _).mono ?_; rintro e w' ⟨rfl, rfl⟩))
      go_ret
      exact ⟨rfl, (Below.refl _ _).alloc (Nat.le_refl _) _⟩
end
end Go.Proofs.Ythlkbkomecnbaaa
namespace Go.Proofs.Ythlkbkomecnbaaa
open Go.RowKit

section
variable (A : Option Addr) (n c : Nat) (ks : List Int) (vars : Int) (w : World)
set_option maxHeartbeats 4000000 in
theorem l1Kind_7 (hn : n ≤ 40) (p q : Nat) (hp : p < n) (hq : q < n) (h : Rd w w.heap.size 1 A n (ints ks)) :
    Calls Try.prog 147 #[.agg #[.int .i64 7, .int .i64 0, .int .i64 p, .int .i64 q], .slice A n c, .int .i64 vars] w (GivesInt w (kIf (((p : Int) == q) && ((ix ks p == 2) && (ix ks q == 2))) 2)) := by
  have q1 : inB 7 2 9 = true := by decide
  have q2 : inB p 0 ((n : Int) - 1) = true := by simp [inB]; omega
  have q3 : inB q 0 ((n : Int) - 1) = true := by simp [inB]; omega
  obtain ⟨ad, rfl, hb1, hc1⟩ := h.int hp
  obtain ⟨ad', e, hb2, hc2⟩ := h.int hq
  injection e with e; subst e
  have hc1 := cell_alloc hb1 hc1
  have hc2 := cell_alloc hb1 hc2
  clear h
  by_cases e : p = q
  · subst e
    rw [show ((p : Int) == p) = true by simp]
    cases g1 : ix ks p == 2
    all_goals
      first | have g1' := bne_f g1 | have g1' := bne_t g1
      go_enter Try.func147, Try.ntmps147
      go_wp2_with (first | (go_at_call 48; refine (l1In_any _ _ _ _).mono ?_; rintro e w' ⟨rfl, rfl⟩) | (go_at_call 173; refine (l1One_any _ _).mono ?_; rintro e w' ⟨rfl, rfl⟩))
      go_ret
      exact ⟨rfl, (Below.refl _ _).alloc (Nat.le_refl _) _⟩
  · have f : ((p : Int) == q) = false := by rw [beq_eq_false_iff_ne]; omega
    have f' : ((q : Int) != p) = true := by simp; omega
    rw [f]
    cases g1 : ix ks p == 2 <;> cases g2 : ix ks q == 2
    all_goals
      first | have g1' := bne_f g1 | have g1' := bne_t g1
      first | have g2' := bne_f g2 | have g2' := bne_t g2
      go_enter Try.func147, Try.ntmps147
      go_wp2_with (first | (go_at_call 48; refine (l1In_any _ _ _ _).mono ?_; rintro e w' ⟨rfl, rfl⟩) | (go_at_call 173; refine (l1One_any _ _).mono ?_; rintro e w' ⟨rfl, rfl⟩))
      go_ret
      exact ⟨rfl, (Below.refl _ _).alloc (Nat.le_refl _) _⟩
end

theorem kindAt_nat {ks : List Int} {p : Nat} {k : Int} (h : p < ks.length) : kindAt ks p k = (ix ks p == k) := by
  rw [kindAt_in (by omega) (by omega), Int.toNat_natCast]
theorem kind_of_two {op k k' tn a b vars : Int} {ks : List Int} (h : OpTwo op k k') : kind ⟨op, tn, a, b⟩ ks vars = kIf (ofTwo ⟨op, tn, a, b⟩ ks k) k' := by
  rcases h with ⟨rfl, rfl, rfl⟩ | ⟨rfl, rfl, rfl⟩ | ⟨rfl, rfl, rfl⟩ | ⟨rfl, rfl, rfl⟩ | ⟨rfl, rfl, rfl⟩ | ⟨rfl, rfl, rfl⟩ | ⟨rfl, rfl, rfl⟩ <;> rfl
theorem kIf_false (k : Int) : kIf false k = 0 := rfl
theorem inB_iff {x lo hi : Int} : inB x lo hi = true ↔ lo ≤ x ∧ x ≤ hi := by simp [inB]
theorem inB_not {x lo hi : Int} : inB x lo hi = false ↔ x < lo ∨ hi < x := by
  simp only [inB, Bool.and_eq_false_iff, decide_eq_false_iff_not]; omega

theorem l1Kind_any (t : Tm) (A : Option Addr) (n c : Nat) (ks : List Int) (vars : Int) (w : World) (h : Rd w w.heap.size 1 A n (ints ks)) (hn : n ≤ 40) (hv : -9000 ≤ vars) (hv' : vars ≤ 9000) :
    Calls Try.prog 147 #[t.v, .slice A n c, .int .i64 vars] w (GivesInt w (kind t ks vars)) := by
  obtain ⟨op, tn, a, b⟩ := t
  show Calls Try.prog 147 #[.agg #[.int .i64 op, .int .i64 tn, .int .i64 a, .int .i64 b], .slice A n c, .int .i64 vars] w _
  by_cases h0 : op < 0 ∨ 9 < op
  · exact l1Kind_else A n c ks vars tn a b w op h0
  by_cases h1 : op = 0
  · subst h1; exact l1Kind_0 A n c ks vars tn a b w
  by_cases h2 : op = 1
  · subst h2; exact l1Kind_1 A n c ks vars tn a b w hv hv'
  have hl := h.len
  have ho : ∃ k k', OpTwo op k k' ∨ (op = 7 ∧ k = 2 ∧ k' = 2) := by
    by_cases e7 : op = 7
    · exact ⟨2, 2, .inr ⟨e7, rfl, rfl⟩⟩
    · refine ⟨if op < 7 then 1 else 2, if op < 5 then 1 else 2, .inl ?_⟩
      unfold OpTwo; split <;> split <;> omega
  obtain ⟨k, k', ho⟩ := ho
  by_cases hgood : tn = 0 ∧ (0 ≤ a ∧ a < n) ∧ (0 ≤ b ∧ b < n)
  · obtain ⟨rfl, ⟨a0, a1⟩, b0, b1⟩ := hgood
    obtain ⟨p, rfl⟩ := Int.eq_ofNat_of_zero_le a0
    obtain ⟨q, rfl⟩ := Int.eq_ofNat_of_zero_le b0
    rcases ho with ho | ⟨rfl, rfl, rfl⟩
    · have e : kind ⟨op, 0, p, q⟩ ks vars = kIf ((ix ks p == k) && (ix ks q == k)) k' := by
        rw [kind_of_two ho]; unfold ofTwo; dsimp only; rw [kindAt_nat (by omega), kindAt_nat (by omega)]; rfl
      rw [e]
      exact l1Kind_in A n c ks vars w op k k' ho hn p q (by omega) (by omega) h
    · have e : kind ⟨7, 0, p, q⟩ ks vars = kIf (((p : Int) == q) && ((ix ks p == 2) && (ix ks q == 2))) 2 := by
        show kIf (((p : Int) == q) && ofTwo ⟨7, 0, p, q⟩ ks 2) 2 = _
        unfold ofTwo; dsimp only; rw [kindAt_nat (by omega), kindAt_nat (by omega)]; rfl
      rw [e]
      exact l1Kind_7 A n c ks vars w hn p q (by omega) (by omega) h
  · have e : kind ⟨op, tn, a, b⟩ ks vars = 0 := by
      have hf : ofTwo ⟨op, tn, a, b⟩ ks k = false := by
        unfold ofTwo
        dsimp only
        by_cases g1 : tn = 0
        · by_cases g2 : 0 ≤ a ∧ a < n
          · rw [kindAt_out (p := b) (by omega)]; simp
          · rw [kindAt_out (p := a) (by omega)]; simp
        · rw [beq_eq_false_iff_ne.2 g1]; rfl
      rcases ho with ho | ⟨rfl, rfl, rfl⟩
      · rw [kind_of_two ho, hf, kIf_false]
      · show kIf ((a == b) && ofTwo ⟨7, tn, a, b⟩ ks 2) 2 = 0
        rw [hf, Bool.and_false, kIf_false]
    rw [e]
    refine l1Kind_bad A n c vars tn a b w op k k' ho hn ?_
    by_cases g1 : tn = 0
    · by_cases g2 : 0 ≤ a ∧ a < n
      · exact .inr (.inr ⟨by simp [g1], inB_iff.2 (by omega), inB_not.2 (by omega)⟩)
      · exact .inr (.inl ⟨by simp [g1], inB_not.2 (by omega)⟩)
    · exact .inl (beq_eq_false_iff_ne.2 g1)
end Go.Proofs.Ythlkbkomecnbaaa
namespace Go.Proofs.Ythlkbkomecnbaaa
open Go.RowKit

set_option maxHeartbeats 1000000 in
theorem kindsOf_spec (A : Option Addr) (n c : Nat) (l : List Tm) (vars : Int) (w : World) (h : Rd w w.heap.size 4 A n (tms l)) (hn : n ≤ maxLen) :
    Calls Try.prog 111 #[.slice A n c, .int .i64 vars] w (GivesInts w (kindsOf l vars)) := by
  unfold maxLen at hn
  cases g1 : inB vars 0 5
  · have e : kindsOf l vars = [] := by
      unfold kindsOf
      rw [if_neg (by rw [inB_not] at g1; simp [sizesOk]; omega)]
    rw [e]
    clear e h
    go_enter Try.func111, Try.ntmps111
    go_wp2_with (first | (go_at_call 48; refine (l1In_any _ _ _ _).mono ?_; rintro e w' ⟨rfl, rfl⟩))
    go_ret; exact ⟨_, rfl, World.ownsRow_nil _ _ _ _, Below.refl _ _⟩
  cases g2 : inB n 1 40
  · have e : kindsOf l vars = [] := by
      unfold kindsOf
      rw [h.tlen, if_neg (by rw [inB_not] at g2; simp [sizesOk]; omega)]
    rw [e]
    clear e h
    go_enter Try.func111, Try.ntmps111
    go_wp2_with (first | (go_at_call 48; refine (l1In_any _ _ _ _).mono ?_; rintro e w' ⟨rfl, rfl⟩))
    go_ret; exact ⟨_, rfl, World.ownsRow_nil _ _ _ _, Below.refl _ _⟩
  · have hv := inB_iff.1 g1
    have hs := inB_iff.1 g2
    go_enter Try.func111, Try.ntmps111
    go_wp2_with (first | (go_at_call 48; refine (l1In_any _ _ _ _).mono ?_; rintro e w' ⟨rfl, rfl⟩))
    have hown0 := World.ownsRow_lit (base := w.heap.size) (e := 3) (size := 1) w #[] 0 (Nat.le_refl _) (by unfold maxLen; omega) rfl
    go_loopg [5, 6] n (fun m v i wr => ∃ (k : Nat) (ks : List Int), k + m = n ∧ i = .int .i64 k ∧ Hid (kindsTo l vars k = some ks) ∧ wr.ownsRow w.heap.size 3 1 v k (ints ks) ∧ Below w.heap.size w wr)
    case atStart => exact ⟨0, [], by omega, rfl, Lib.hid rfl, hown0, below_alloc _ _⟩
    case round =>
      obtain ⟨k, ks, hk, rfl, hto, hown', hb⟩ := hrel
      clear hown0
      by_cases hlt : k < n
      · obtain ⟨A', c', rfl, _, hR⟩ := own_form hown'
        obtain ⟨ad, rfl, _, h0, h1, h2, h3⟩ := (h.below hb).tm hlt
        have HR := Lib.hid hR; clear hR
        cases hz : kind (tx l k) ks vars == 0
        · go_wp2_with (first
            | (go_at_call 147; refine (l1Kind_any (tx l k) A' k c' ks vars _ HR.out (by omega) (by omega) (by omega)).mono ?_; rintro e w2 ⟨rfl, hb2⟩)
            | (at_builtin; refine app_int rfl _ _ rfl w.heap.size _ k ks _ rfl (own_below hown' hb2) rfl (by omega) (by have := hb.size; have := hb2.size; omega) ?_; intro v' w3 hown3 hb4))
          have hf : kindsTo l vars (k + 1) = some (ks ++ [kind (tx l k) ks vars]) := by
            simp only [kindsTo, hto.out]; rw [if_neg (by simpa using hz)]
          go_roundg (n - (k + 1))
          case measure => omega
          case rel => exact ⟨k + 1, _, by omega, by go_num, Lib.hid hf, hown3, (hb.trans (hb2.mono hb.size)).trans hb4⟩
        · have hf : kindsTo l vars (k + 1) = none := by
            simp only [kindsTo, hto.out]; rw [if_pos (by simpa using hz)]
          have HF := Lib.hid hf; clear hf
          go_wp2_with (first
            | (go_at_call 147; refine (l1Kind_any (tx l k) _ k c' ks vars _ HR.out (by omega) (by omega) (by omega)).mono ?_; rintro e w2 ⟨rfl, hb2⟩))
          go_ret
          have e : kindsOf l vars = [] := by unfold kindsOf; rw [kindsTo_none HF.out _ (by rw [h.tlen]; omega)]; simp
          rw [e]
          exact ⟨_, rfl, World.ownsRow_nil _ _ _ _, hb.trans (hb2.mono hb.size)⟩
      · obtain rfl : k = n := by omega
        go_wp2
        go_ret
        have e : kindsOf l vars = ks := by
          unfold kindsOf
          rw [if_pos (by rw [h.tlen]; simp [sizesOk]; omega), h.tlen, hto.out]; rfl
        rw [e]
        exact ⟨_, rfl, by rw [kindsTo_len hto.out]; exact hown', hb⟩

end Go.Proofs.Ythlkbkomecnbaaa
