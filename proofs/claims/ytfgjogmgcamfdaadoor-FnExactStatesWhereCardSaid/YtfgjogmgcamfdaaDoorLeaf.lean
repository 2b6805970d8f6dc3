/- The leaves of chapter 1: what the small functions return. -/
import Derived.Test.YtfgjogmgcamfdaaDoorLib
namespace Go.Proofs.YtfgjogmgcamfdaaDoor
open Go.RowKit

def inB (n lo hi : Int) : Bool := decide (lo ≤ n) && decide (n ≤ hi)

set_option maxHeartbeats 400000 in
theorem isNumber_any (n : Int) (w : World) :
    Calls Tryd.prog 101 #[.int .i64 n] w fun e w' => e = .returned (.bool (inB n (-9999) 9999)) ∧ w = w' := by
  go_enter Tryd.func101, Tryd.ntmps101
  go_wp2
  all_goals (go_ret; exact ⟨by congr 2; simp only [inB]; (first | (simp [*]; done) | (simp; omega)), rfl⟩)

set_option maxHeartbeats 400000 in
theorem l1In_any (n lo hi : Int) (w : World) :
    Calls Tryd.prog 59 #[.int .i64 n, .int .i64 lo, .int .i64 hi] w fun e w' => e = .returned (.bool (inB n lo hi)) ∧ w = w' := by
  go_enter Tryd.func59, Tryd.ntmps59
  go_wp2
  all_goals (go_ret; exact ⟨by congr 2; simp only [inB]; (first | (simp [*]; done) | (simp; omega)), rfl⟩)

/-- The kind if it is well, else none. -/
def kIf (b : Bool) (k : Int) : Int := if b then k else 0
theorem kindIf_any (b : Bool) (k : Int) (w : World) :
    Calls Tryd.prog 119 #[.bool b, .int .i64 k] w fun e w' => e = .returned (.int .i64 (kIf b k)) ∧ w = w' := by
  cases b <;> (go_enter Tryd.func119, Tryd.ntmps119; go_wp2; go_ret; exact ⟨rfl, rfl⟩)

def kindAt (ks : List Int) (p k : Int) : Bool := decide (0 ≤ p) && decide (p < ks.length) && (ix ks p.toNat == k)
theorem kindAt_in {ks : List Int} {p k : Int} (h0 : 0 ≤ p) (h1 : p < ks.length) : kindAt ks p k = (ix ks p.toNat == k) := by simp [kindAt, h0, h1]
theorem kindAt_out {ks : List Int} {p k : Int} (h : p < 0 ∨ (ks.length : Int) ≤ p) : kindAt ks p k = false := by
  unfold kindAt
  rcases h with h | h
  · rw [decide_eq_false (by omega)]; rfl
  · rw [decide_eq_false (show ¬ p < (ks.length : Int) by omega)]; simp

theorem isKindAt_any (A : Option Addr) (n c : Nat) (ks : List Int) (p k : Int) (w : World) (h : Rd w w.heap.size 1 A n (ints ks)) :
    Calls Tryd.prog 121 #[.slice A n c, .int .i64 p, .int .i64 k] w fun e w' => e = .returned (.bool (kindAt ks p k)) ∧ w = w' := by
  have hl := h.len
  by_cases h0 : 0 ≤ p
  · obtain ⟨q, rfl⟩ := Int.eq_ofNat_of_zero_le h0
    by_cases h1 : q < n
    · obtain ⟨ad, rfl, hb, hc⟩ := h.int h1
      have e := kindAt_in (ks := ks) (p := (q : Int)) (k := k) h0 (by omega)
      rw [e]; clear e
      rw [Int.toNat_natCast]
      clear h hl
      go_enter Tryd.func121, Tryd.ntmps121
      go_wp2
      go_ret
      exact ⟨rfl, rfl⟩
    · rw [kindAt_out (.inr (by omega))]
      clear hl h
      go_enter Tryd.func121, Tryd.ntmps121
      go_wp2
      go_ret
      exact ⟨rfl, rfl⟩
  · rw [kindAt_out (.inl (by omega))]
    clear hl h
    go_enter Tryd.func121, Tryd.ntmps121
    go_wp2
    go_ret
    exact ⟨rfl, rfl⟩

/-- The kinds of both terms of an operation. -/
def ofTwo (t : Tm) (ks : List Int) (k : Int) : Bool := (t.n == 0) && (kindAt ks t.a k && kindAt ks t.b k)

set_option maxHeartbeats 400000 in
theorem isOfTwo_any (t : Tm) (A : Option Addr) (n c : Nat) (ks : List Int) (k : Int) (w : World) (h : Rd w w.heap.size 1 A n (ints ks)) :
    Calls Tryd.prog 120 #[t.v, .slice A n c, .int .i64 k] w fun e w' => e = .returned (.bool (ofTwo t ks k)) ∧ Below w.heap.size w w' := by
  obtain ⟨op, tn, a, b⟩ := t
  unfold Tm.v ofTwo
  dsimp only
  have HR : ∀ o, Rd (w.alloc o) (w.alloc o).heap.size 1 A n (ints ks) := fun o => (h.alloc (Nat.le_refl _) o).more (by simp)
  have HR := Lib.hid HR
  clear h
  by_cases h0 : tn = 0
  · subst h0
    cases h1 : kindAt ks a k
    all_goals cases h2 : kindAt ks b k
    all_goals have H1 := Lib.hid h1; clear h1
    all_goals have H2 := Lib.hid h2; clear h2
    all_goals go_enter Tryd.func120, Tryd.ntmps120
    all_goals go_wp2_with fail
    all_goals
      refine (isKindAt_any A n c ks a k _ (HR.out _)).mono ?_
      rintro e w' ⟨rfl, rfl⟩
      rw [H1.out]
      go_wp2_with fail
    · go_ret
      exact ⟨rfl, (Below.refl _ _).alloc (Nat.le_refl _) _⟩
    · go_ret
      exact ⟨rfl, (Below.refl _ _).alloc (Nat.le_refl _) _⟩
    all_goals
      refine (isKindAt_any A n c ks b k _ (HR.out _)).mono ?_
      rintro e w' ⟨rfl, rfl⟩
      rw [H2.out]
      go_wp2_with fail
      go_ret
      exact ⟨rfl, (Below.refl _ _).alloc (Nat.le_refl _) _⟩
  · have hb : (tn == 0) = false := beq_eq_false_iff_ne.2 h0
    rw [hb]
    go_enter Tryd.func120, Tryd.ntmps120
    go_wp2
    go_ret
    exact ⟨rfl, (Below.refl _ _).alloc (Nat.le_refl _) _⟩

/-- The kind of a term behind terms of the kinds ks. -/
def kind (t : Tm) (ks : List Int) (vars : Int) : Int :=
  if t.op = 0 then kIf ((t.a == 0) && ((t.b == 0) && inB t.n (-9999) 9999)) 1
  else if t.op = 1 then kIf ((t.a == 0) && ((t.b == 0) && (decide (0 ≤ t.n) && decide (t.n < vars)))) 1
  else if t.op = 2 ∨ t.op = 3 ∨ t.op = 4 then kIf (ofTwo t ks 1) 1
  else if t.op = 5 ∨ t.op = 6 then kIf (ofTwo t ks 1) 2
  else if t.op = 7 then kIf ((t.a == t.b) && ofTwo t ks 2) 2
  else if t.op = 8 ∨ t.op = 9 then kIf (ofTwo t ks 2) 2
  else 0

/-- The value of a call is this number; nothing that was there has changed. -/
def GivesInt (w : World) (x : Int) (e : Ending) (w' : World) : Prop := e = .returned (.int .i64 x) ∧ Below w.heap.size w w'

/-- The call gives this Bool; nothing that was there has changed. -/
def GivesBool (w : World) (b : Bool) (e : Ending) (w' : World) : Prop := e = .returned (.bool b) ∧ Below w.heap.size w w'

section
variable (A : Option Addr) (n c : Nat) (ks : List Int) (vars tn a b : Int) (w : World)

set_option maxHeartbeats 800000 in
theorem kindOf_0 : Calls Tryd.prog 111 #[.agg #[.int .i64 0, .int .i64 tn, .int .i64 a, .int .i64 b], .slice A n c, .int .i64 vars] w (GivesInt w (kind ⟨0, tn, a, b⟩ ks vars)) := by
  have e : kind ⟨0, tn, a, b⟩ ks vars = kIf ((a == 0) && ((b == 0) && inB tn (-9999) 9999)) 1 := rfl
  rw [e]; clear e
  cases ha : a == 0 <;> cases hb : b == 0
  all_goals
    go_enter Tryd.func111, Tryd.ntmps111
    go_wp2_with (first | (go_at_call 119; refine (kindIf_any _ _ _).mono ?_; rintro e w' ⟨rfl, rfl⟩) | (go_at_call 101; refine (isNumber_any _ _).mono ?_; rintro e w' ⟨rfl, rfl⟩))
    go_ret
    exact ⟨rfl, (Below.refl _ _).alloc (Nat.le_refl _) _⟩

set_option maxHeartbeats 800000 in
theorem kindOf_1 : Calls Tryd.prog 111 #[.agg #[.int .i64 1, .int .i64 tn, .int .i64 a, .int .i64 b], .slice A n c, .int .i64 vars] w (GivesInt w (kind ⟨1, tn, a, b⟩ ks vars)) := by
  have e : kind ⟨1, tn, a, b⟩ ks vars = kIf ((a == 0) && ((b == 0) && (decide (0 ≤ tn) && decide (tn < vars)))) 1 := rfl
  rw [e]; clear e
  cases ha : a == 0 <;> cases hb : b == 0 <;> cases hc : decide (0 ≤ tn)
  all_goals
    go_enter Tryd.func111, Tryd.ntmps111
    go_wp2_with (first | (go_at_call 119; refine (kindIf_any _ _ _).mono ?_; rintro e w' ⟨rfl, rfl⟩))
    go_ret
    exact ⟨rfl, (Below.refl _ _).alloc (Nat.le_refl _) _⟩

variable (h : Rd w w.heap.size 1 A n (ints ks))
include h
set_option maxHeartbeats 800000 in
theorem kindOf_two (op k k' : Int) (e : kind ⟨op, tn, a, b⟩ ks vars = kIf (ofTwo ⟨op, tn, a, b⟩ ks k) k')
    (hop : (op = 2 ∧ k = 1 ∧ k' = 1) ∨ (op = 3 ∧ k = 1 ∧ k' = 1) ∨ (op = 4 ∧ k = 1 ∧ k' = 1) ∨ (op = 5 ∧ k = 1 ∧ k' = 2) ∨ (op = 6 ∧ k = 1 ∧ k' = 2) ∨ (op = 8 ∧ k = 2 ∧ k' = 2) ∨ (op = 9 ∧ k = 2 ∧ k' = 2)) :
    Calls Tryd.prog 111 #[.agg #[.int .i64 op, .int .i64 tn, .int .i64 a, .int .i64 b], .slice A n c, .int .i64 vars] w (GivesInt w (kind ⟨op, tn, a, b⟩ ks vars)) := by
  rw [e]; clear e
  have HR : ∀ o, Rd (w.alloc o) (w.alloc o).heap.size 1 A n (ints ks) := fun o => (h.alloc (Nat.le_refl _) o).more (by simp)
  have HR := Lib.hid HR
  clear h
  rcases hop with ⟨rfl, rfl, rfl⟩ | ⟨rfl, rfl, rfl⟩ | ⟨rfl, rfl, rfl⟩ | ⟨rfl, rfl, rfl⟩ | ⟨rfl, rfl, rfl⟩ | ⟨rfl, rfl, rfl⟩ | ⟨rfl, rfl, rfl⟩
  all_goals
    go_enter Tryd.func111, Tryd.ntmps111
    go_wp2_with (first | (go_at_call 119; refine (kindIf_any _ _ _).mono ?_; rintro e w' ⟨rfl, rfl⟩) | (go_at_call 120; refine (isOfTwo_any ⟨_, _, _, _⟩ A n c ks _ _ (HR.out _)).mono ?_; rintro e w' ⟨rfl, hb⟩))
    go_ret
    exact ⟨rfl, ((Below.refl _ _).alloc (Nat.le_refl _) _).trans (hb.mono (by simp))⟩

set_option maxHeartbeats 800000 in
theorem kindOf_7 : Calls Tryd.prog 111 #[.agg #[.int .i64 7, .int .i64 tn, .int .i64 a, .int .i64 b], .slice A n c, .int .i64 vars] w (GivesInt w (kind ⟨7, tn, a, b⟩ ks vars)) := by
  have e : kind ⟨7, tn, a, b⟩ ks vars = kIf ((a == b) && ofTwo ⟨7, tn, a, b⟩ ks 2) 2 := rfl
  rw [e]; clear e
  have HR : ∀ o, Rd (w.alloc o) (w.alloc o).heap.size 1 A n (ints ks) := fun o => (h.alloc (Nat.le_refl _) o).more (by simp)
  have HR := Lib.hid HR
  clear h
  cases ha : a == b
  · go_enter Tryd.func111, Tryd.ntmps111
    go_wp2_with (first | (go_at_call 119; refine (kindIf_any _ _ _).mono ?_; rintro e w' ⟨rfl, rfl⟩))
    go_ret
    exact ⟨rfl, (Below.refl _ _).alloc (Nat.le_refl _) _⟩
  · go_enter Tryd.func111, Tryd.ntmps111
    go_wp2_with (first | (go_at_call 119; refine (kindIf_any _ _ _).mono ?_; rintro e w' ⟨rfl, rfl⟩) | (go_at_call 120; refine (isOfTwo_any ⟨_, _, _, _⟩ A n c ks _ _ (HR.out _)).mono ?_; rintro e w' ⟨rfl, hb⟩))
    go_ret
    exact ⟨rfl, ((Below.refl _ _).alloc (Nat.le_refl _) _).trans (hb.mono (by simp))⟩

omit h in
set_option maxHeartbeats 800000 in
theorem kindOf_else (op : Int) (hop : op < 0 ∨ 9 < op) : Calls Tryd.prog 111 #[.agg #[.int .i64 op, .int .i64 tn, .int .i64 a, .int .i64 b], .slice A n c, .int .i64 vars] w (GivesInt w (kind ⟨op, tn, a, b⟩ ks vars)) := by
  have e : kind ⟨op, tn, a, b⟩ ks vars = 0 := by
    unfold kind
    dsimp only
    rw [if_neg (by omega), if_neg (by omega), if_neg (by omega), if_neg (by omega), if_neg (by omega), if_neg (by omega)]
  rw [e]; clear e
  have g0 : (op == 0) = false := beq_eq_false_iff_ne.2 (by omega)
  have g1 : (op == 1) = false := beq_eq_false_iff_ne.2 (by omega)
  have g2 : (op == 2) = false := beq_eq_false_iff_ne.2 (by omega)
  have g3 : (op == 3) = false := beq_eq_false_iff_ne.2 (by omega)
  have g4 : (op == 4) = false := beq_eq_false_iff_ne.2 (by omega)
  have g5 : (op == 5) = false := beq_eq_false_iff_ne.2 (by omega)
  have g6 : (op == 6) = false := beq_eq_false_iff_ne.2 (by omega)
  have g7 : (op == 7) = false := beq_eq_false_iff_ne.2 (by omega)
  have g8 : (op == 8) = false := beq_eq_false_iff_ne.2 (by omega)
  have g9 : (op == 9) = false := beq_eq_false_iff_ne.2 (by omega)
  go_enter Tryd.func111, Tryd.ntmps111
  go_wp2
  go_ret
  exact ⟨rfl, (Below.refl _ _).alloc (Nat.le_refl _) _⟩
end

theorem kindOf_any (t : Tm) (A : Option Addr) (n c : Nat) (ks : List Int) (vars : Int) (w : World) (h : Rd w w.heap.size 1 A n (ints ks)) :
    Calls Tryd.prog 111 #[t.v, .slice A n c, .int .i64 vars] w (GivesInt w (kind t ks vars)) := by
  obtain ⟨op, tn, a, b⟩ := t
  show Calls Tryd.prog 111 #[.agg #[.int .i64 op, .int .i64 tn, .int .i64 a, .int .i64 b], .slice A n c, .int .i64 vars] w _
  by_cases h0 : op < 0 ∨ 9 < op
  · exact kindOf_else A n c ks vars tn a b w op h0
  obtain rfl | rfl | rfl | rfl | rfl | rfl | rfl | rfl | rfl | rfl : op = 0 ∨ op = 1 ∨ op = 2 ∨ op = 3 ∨ op = 4 ∨ op = 5 ∨ op = 6 ∨ op = 7 ∨ op = 8 ∨ op = 9 := by omega
  · exact kindOf_0 A n c ks vars tn a b w
  · exact kindOf_1 A n c ks vars tn a b w
  · exact kindOf_two A n c ks vars tn a b w h 2 1 1 rfl (by simp)
  · exact kindOf_two A n c ks vars tn a b w h 3 1 1 rfl (by simp)
  · exact kindOf_two A n c ks vars tn a b w h 4 1 1 rfl (by simp)
  · exact kindOf_two A n c ks vars tn a b w h 5 1 2 rfl (by simp)
  · exact kindOf_two A n c ks vars tn a b w h 6 1 2 rfl (by simp)
  · exact kindOf_7 A n c ks vars tn a b w h
  · exact kindOf_two A n c ks vars tn a b w h 8 2 2 rfl (by simp)
  · exact kindOf_two A n c ks vars tn a b w h 9 2 2 rfl (by simp)
end Go.Proofs.YtfgjogmgcamfdaaDoor
