/- The model's Eval. -/
import Derived.Test.YtmlhnnkdecabpaaDoorEvalB
namespace Go.Proofs.YtmlhnnkdecabpaaDoor
open Go.RowKit

set_option maxHeartbeats 400000 in
theorem l1Held_any (n : Int) (w : World) : Calls Tryd.prog 110 #[.int .i64 n] w fun e w' => e = .returned (.int .i64 (hld n)) ∧ w = w' := by
  by_cases h1 : n < -9999
  · have e : hld n = -9999 := by unfold hld; rw [if_pos h1]
    rw [e]; clear e
    go_enter Tryd.func110, Tryd.ntmps110
    go_wp2
    go_ret
    exact ⟨rfl, rfl⟩
  by_cases h2 : 9999 < n
  · have e : hld n = 9999 := by unfold hld; rw [if_neg h1, if_pos h2]
    rw [e]; clear e
    go_enter Tryd.func110, Tryd.ntmps110
    go_wp2
    go_ret
    exact ⟨rfl, rfl⟩
  · have e : hld n = n := by unfold hld; rw [if_neg h1, if_neg h2]
    rw [e]; clear e
    have h3 : -9999 ≤ n := by omega
    have h4 : n ≤ 9999 := by omega
    clear h1 h2
    go_enter Tryd.func110, Tryd.ntmps110
    go_wp2
    go_ret
    exact ⟨rfl, rfl⟩

theorem l1Truth_any (b : Bool) (w : World) : Calls Tryd.prog 111 #[.bool b] w fun e w' => e = .returned (.int .i64 (tr b)) ∧ w = w' := by
  cases b <;> (go_enter Tryd.func111, Tryd.ntmps111; go_wp2; go_ret; exact ⟨rfl, rfl⟩)

set_option maxHeartbeats 1000000 in
theorem l1Do_any (op x y : Int) (w : World) (o1 : 2 ≤ op) (o2 : op ≤ 9) (x1 : -9999 ≤ x) (x2 : x ≤ 9999) (y1 : -9999 ≤ y) (y2 : y ≤ 9999) :
    Calls Tryd.prog 98 #[.int .i64 op, .int .i64 x, .int .i64 y] w fun e w' => e = .returned (.int .i64 (doOp op x y)) ∧ w = w' := by
  obtain ⟨m1, m2⟩ := mul_in x1 x2 y1 y2
  have E : ∀ z, doOp op x y = z → (Calls Tryd.prog 98 #[.int .i64 op, .int .i64 x, .int .i64 y] w fun e w' => e = .returned (.int .i64 z) ∧ w = w') → Calls Tryd.prog 98 #[.int .i64 op, .int .i64 x, .int .i64 y] w fun e w' => e = .returned (.int .i64 (doOp op x y)) ∧ w = w' := fun z e h => by rw [e]; exact h
  obtain rfl | rfl | rfl | rfl | rfl | rfl | rfl | rfl : op = 2 ∨ op = 3 ∨ op = 4 ∨ op = 5 ∨ op = 6 ∨ op = 7 ∨ op = 8 ∨ op = 9 := by omega
  · refine E (hld (x + y)) (by simp [doOp]) ?_
    clear E
    go_enter Tryd.func98, Tryd.ntmps98
    go_wp2_with (first | (go_at_call 110; refine (l1Held_any _ _).mono ?_; rintro e w' ⟨rfl, rfl⟩))
    go_ret; exact ⟨rfl, rfl⟩
  · refine E (hld (x - y)) (by simp [doOp]) ?_
    clear E
    go_enter Tryd.func98, Tryd.ntmps98
    go_wp2_with (first | (go_at_call 110; refine (l1Held_any _ _).mono ?_; rintro e w' ⟨rfl, rfl⟩))
    go_ret; exact ⟨rfl, rfl⟩
  · refine E (hld (x * y)) (by simp [doOp]) ?_
    clear E
    go_enter Tryd.func98, Tryd.ntmps98
    go_wp2_with (first | (go_at_call 110; refine (l1Held_any _ _).mono ?_; rintro e w' ⟨rfl, rfl⟩))
    go_ret; exact ⟨rfl, rfl⟩
  · refine E (tr (decide (x < y))) (by simp [doOp]) ?_
    clear E
    go_enter Tryd.func98, Tryd.ntmps98
    go_wp2_with (first | (go_at_call 111; refine (l1Truth_any _ _).mono ?_; rintro e w' ⟨rfl, rfl⟩))
    go_ret; exact ⟨rfl, rfl⟩
  · refine E (tr (x == y)) (by simp [doOp]) ?_
    clear E
    go_enter Tryd.func98, Tryd.ntmps98
    go_wp2_with (first | (go_at_call 111; refine (l1Truth_any _ _).mono ?_; rintro e w' ⟨rfl, rfl⟩))
    go_ret; exact ⟨rfl, rfl⟩
  · refine E (1 - x) (by simp [doOp]) ?_
    clear E
    go_enter Tryd.func98, Tryd.ntmps98
    go_wp2
    go_ret; exact ⟨rfl, rfl⟩
  · refine E (x * y) (by simp [doOp]) ?_
    clear E
    go_enter Tryd.func98, Tryd.ntmps98
    go_wp2
    go_ret; exact ⟨rfl, rfl⟩
  · refine E (tr (decide (0 < x + y))) (by simp [doOp]) ?_
    clear E
    go_enter Tryd.func98, Tryd.ntmps98
    go_wp2_with (first | (go_at_call 111; refine (l1Truth_any _ _).mono ?_; rintro e w' ⟨rfl, rfl⟩))
    go_ret; exact ⟨rfl, rfl⟩

end Go.Proofs.YtmlhnnkdecabpaaDoor
