/- Systems: the small functions of chapter 2, of the program and of the model. -/
import Derived.Test.YtmlhnnkdecabpaaDoorSpecKinds3
import Derived.Test.YtmlhnnkdecabpaaDoorTo
namespace Go.Proofs.YtmlhnnkdecabpaaDoor
open Go.RowKit

theorem Blk.new (w : World) (a : Array Value) (t : TypeId) : Blk (w.alloc (.cells a t)) w.heap.size t a.toList := by
  unfold Blk
  show (w.heap.push _)[w.heap.size]? = _
  rw [Array.getElem?_push_size, Array.toArray_toList]

/-- Whether all of the first n are so. -/
def allTo (f : Nat → Bool) : Nat → Bool
  | 0 => true
  | k + 1 => allTo f k && f k
theorem allTo_true {f : Nat → Bool} {n : Nat} : allTo f n = true ↔ ∀ k, k < n → f k = true := by
  induction n with
  | zero => simp [allTo]
  | succ n ih =>
    simp only [allTo, Bool.and_eq_true, ih]
    constructor
    · rintro ⟨h1, h2⟩ k hk
      by_cases e : k = n
      · subst e; exact h2
      · exact h1 k (by omega)
    · intro h; exact ⟨fun k hk => h k (by omega), h n (by omega)⟩
theorem allTo_false {f : Nat → Bool} {n k : Nat} (hk : k < n) (h : f k = false) : allTo f n = false := by
  cases e : allTo f n with
  | false => rfl
  | true => rw [allTo_true.1 e k hk] at h; cases h
theorem allTo_congr {f g : Nat → Bool} {n : Nat} (h : ∀ k, k < n → f k = g k) : allTo f n = allTo g n := by
  induction n with
  | zero => rfl
  | succ n ih => simp only [allTo, ih fun k hk => h k (by omega), h n (by omega)]
theorem bool_iff {a b : Bool} (h : a = true ↔ b = true) : a = b := by cases a <;> cases b <;> simp_all

/-- Whether a variable is one. -/
def varB (v : Vr) : Bool := inB v.low (-9999) 9999 && (inB v.high (-9999) 9999 && (inB v.first v.low v.high && decide (v.high - v.low + 1 ≤ 20)))
theorem varB_iff {v : Vr} : varB v = true ↔ (-9999 ≤ v.low ∧ v.low ≤ 9999) ∧ (-9999 ≤ v.high ∧ v.high ≤ 9999) ∧ (v.low ≤ v.first ∧ v.first ≤ v.high) ∧ v.high - v.low + 1 ≤ 20 := by simp [varB, inB]

theorem has_any (v : Vr) (n : Int) (w : World) : Calls Tryd.prog 101 #[v.v, .int .i64 n] w (GivesBool w (inB n v.low v.high)) := by
  obtain ⟨a, b, c⟩ := v
  show Calls _ _ #[.agg #[.int .i64 a, .int .i64 b, .int .i64 c], .int .i64 n] w (GivesBool w (inB n a b))
  cases h : inB n a b
  · rcases inB_not.1 h with h | h
    · have d1 : decide (a ≤ n) = false := by simp; omega
      go_enter Tryd.func101, Tryd.ntmps101
      go_wp2
      go_ret
      exact ⟨rfl, below_alloc _ _⟩
    · have d2 : decide (n ≤ b) = false := by simp; omega
      by_cases h' : a ≤ n
      · go_enter Tryd.func101, Tryd.ntmps101
        go_wp2
        go_ret
        exact ⟨rfl, below_alloc _ _⟩
      · go_enter Tryd.func101, Tryd.ntmps101
        go_wp2
        go_ret
        exact ⟨rfl, below_alloc _ _⟩
  · obtain ⟨h1, h2⟩ := inB_iff.1 h
    have d2 : decide (n ≤ b) = true := by simp; omega
    go_enter Tryd.func101, Tryd.ntmps101
    go_wp2
    go_ret
    exact ⟨rfl, below_alloc _ _⟩
theorem span_any (v : Vr) (w : World) (h1 : -10000 ≤ v.low) (h2 : v.low ≤ 10000) (h3 : -10000 ≤ v.high) (h4 : v.high ≤ 10000) : Calls Tryd.prog 93 #[v.v] w (GivesInt w (v.high - v.low + 1)) := by
  obtain ⟨a, b, c⟩ := v
  show Calls _ _ #[.agg #[.int .i64 a, .int .i64 b, .int .i64 c]] w (GivesInt w (b - a + 1))
  dsimp only at h1 h2 h3 h4
  go_enter Tryd.func93, Tryd.ntmps93
  go_wp2
  go_ret
  exact ⟨rfl, below_alloc _ _⟩

set_option maxHeartbeats 1000000 in
theorem isOne_any (v : Vr) (w : World) : Calls Tryd.prog 79 #[v.v] w (GivesBool w (varB v)) := by
  have HH := fun W => has_any v v.first W
  have HS := fun W => span_any v W
  unfold varB
  obtain ⟨a, b, c⟩ := v
  dsimp only at HH HS ⊢
  unfold Vr.v at HH HS ⊢
  dsimp only at HH HS ⊢
  have HH := Lib.hid HH
  have HS := Lib.hid HS
  cases h1 : inB a (-9999) 9999
  · go_enter Tryd.func79, Tryd.ntmps79
    go_wp2_with (first | (go_at_call 100; refine (isNumber_any _ _).mono ?_; rintro e w' ⟨rfl, rfl⟩))
    go_ret
    exact ⟨rfl, below_alloc _ _⟩
  cases h2 : inB b (-9999) 9999
  · go_enter Tryd.func79, Tryd.ntmps79
    go_wp2_with (first | (go_at_call 100; refine (isNumber_any _ _).mono ?_; rintro e w' ⟨rfl, rfl⟩))
    go_ret
    exact ⟨rfl, below_alloc _ _⟩
  have k1 := inB_iff.1 h1
  have k2 := inB_iff.1 h2
  cases h3 : inB c a b
  all_goals
    have H3 := Lib.hid h3
    clear h3
    by_cases h4 : b - a + 1 ≤ 20
  all_goals
    go_enter Tryd.func79, Tryd.ntmps79
    go_wp2_with (first
      | (go_at_call 100; refine (isNumber_any _ _).mono ?_; rintro e w' ⟨rfl, rfl⟩)
      | (go_at_call 101; refine (HH.out _).mono ?_; rintro e w2 ⟨rfl, b2⟩; rw [H3.out]; obtain ⟨hc2, hf2⟩ := bcell b2)
      | (go_at_call 93; refine (HS.out _ (by omega) (by omega) (by omega) (by omega)).mono ?_; rintro e w3 ⟨rfl, b3⟩))
    go_ret
    refine ⟨by simp [h4], ?_⟩
    first
      | exact (below_call b2).trans (b3.mono (by have := b2.size; simp at this; omega))
      | exact below_call b2

set_option maxHeartbeats 1000000 in
theorem l2Var_any (v : Vr) (w : World) : Calls Tryd.prog 71 #[v.v] w (GivesBool w (varB v)) := by
  have e : varB v = (inB v.low (-9999) 9999 && (inB v.high v.low 9999 && (decide (v.high - v.low < 20) && inB v.first v.low v.high))) := by
    apply bool_iff; rw [varB_iff]; simp [inB]; omega
  rw [e]; clear e
  obtain ⟨a, b, c⟩ := v
  unfold Vr.v
  dsimp only
  cases h1 : inB a (-9999) 9999
  · go_enter Tryd.func71, Tryd.ntmps71
    go_wp2_with (first | (go_at_call 70; refine (l1In_any _ _ _ _).mono ?_; rintro e w' ⟨rfl, rfl⟩))
    go_ret
    exact ⟨rfl, below_alloc _ _⟩
  cases h2 : inB b a 9999
  · go_enter Tryd.func71, Tryd.ntmps71
    go_wp2_with (first | (go_at_call 70; refine (l1In_any _ _ _ _).mono ?_; rintro e w' ⟨rfl, rfl⟩))
    go_ret
    exact ⟨rfl, below_alloc _ _⟩
  have k1 := inB_iff.1 h1
  have k2 := inB_iff.1 h2
  by_cases h4 : b - a < 20
  all_goals
    cases h3 : inB c a b
  all_goals
    go_enter Tryd.func71, Tryd.ntmps71
    go_wp2_with (first | (go_at_call 70; refine (l1In_any _ _ _ _).mono ?_; rintro e w' ⟨rfl, rfl⟩))
    go_ret
    exact ⟨by simp [h4], below_alloc _ _⟩
end Go.Proofs.YtmlhnnkdecabpaaDoor
