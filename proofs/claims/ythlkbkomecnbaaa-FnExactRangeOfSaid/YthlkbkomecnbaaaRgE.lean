/- Whether two must be equal, and whether they can be, in the program. -/
import Derived.Test.YthlkbkomecnbaaaRgP
namespace Go.Proofs.Ythlkbkomecnbaaa
open Go.RowKit
set_option maxRecDepth 100000

set_option maxHeartbeats 4000000 in
theorem equalEnds_any (a b : En) (w : World) (ha : a.lo ≤ a.hi) (hb : b.lo ≤ b.hi) :
    Calls Try.prog 120 #[a.v, b.v] w (GivesV w (En.v ⟨tr (a.lo == a.hi && b.lo == b.hi && a.lo == b.lo), tr (decide (a.lo ≤ b.hi) && decide (b.lo ≤ a.hi))⟩)) := by
  obtain ⟨x1, x2⟩ := a
  obtain ⟨y1, y2⟩ := b
  dsimp only at ha hb
  unfold En.v
  dsimp only
  obtain ⟨B1, G1⟩ : ∃ B1, Hid (B1 = (x1 == x2 && y1 == y2 && x1 == y1)) := ⟨_, Lib.hid rfl⟩
  obtain ⟨B2, G2⟩ : ∃ B2, Hid (B2 = (decide (x1 ≤ y2) && decide (y1 ≤ x2))) := ⟨_, Lib.hid rfl⟩
  rw [← G1.out, ← G2.out]
  by_cases e : x1 = x2
  · have eq : (x1 == x2) = true := by simpa using e
    rcases Int.lt_or_le x2 y1 with l1 | l1 <;> rcases Int.lt_or_le y2 x1 with l2 | l2
    all_goals (try (exfalso; omega))
    all_goals
     go_enter Try.func120, Try.ntmps120
     go_wp2_with (first
       | (go_at_call 105; refine (truth_any _ _).mono ?_; rintro e w1 ⟨rfl, rfl⟩))
     all_goals
       first
       | (refine bodyPost_ret (v := .agg #[.int .i64 (tr true), .int .i64 (tr true)]) (by simp [results, Try.results120, go_sem] <;> (refine congrArg tr ?_; simp only [decide_eq_true_eq, decide_eq_false_iff_not]; omega)) rfl ⟨?_, ((below_alloc _ _).alloc (by simp) _).alloc (by simp; omega) _⟩; rw [show B1 = true from by (rw [G1.out]; first | (simp only [Bool.and_eq_true, beq_iff_eq]; omega) | (simp only [Bool.and_eq_false_iff, beq_eq_false_iff_ne]; omega)), show B2 = true from by (rw [G2.out]; first | (simp only [Bool.and_eq_true, decide_eq_true_eq]; omega) | (simp only [Bool.and_eq_false_iff, decide_eq_false_iff_not]; omega))])
       | (refine bodyPost_ret (v := .agg #[.int .i64 (tr true), .int .i64 (tr false)]) (by simp [results, Try.results120, go_sem] <;> (refine congrArg tr ?_; simp only [decide_eq_true_eq, decide_eq_false_iff_not]; omega)) rfl ⟨?_, ((below_alloc _ _).alloc (by simp) _).alloc (by simp; omega) _⟩; rw [show B1 = true from by (rw [G1.out]; first | (simp only [Bool.and_eq_true, beq_iff_eq]; omega) | (simp only [Bool.and_eq_false_iff, beq_eq_false_iff_ne]; omega)), show B2 = false from by (rw [G2.out]; first | (simp only [Bool.and_eq_true, decide_eq_true_eq]; omega) | (simp only [Bool.and_eq_false_iff, decide_eq_false_iff_not]; omega))])
       | (refine bodyPost_ret (v := .agg #[.int .i64 (tr false), .int .i64 (tr true)]) (by simp [results, Try.results120, go_sem] <;> (refine congrArg tr ?_; simp only [decide_eq_true_eq]; omega)) rfl ⟨?_, ((below_alloc _ _).alloc (by simp) _).alloc (by simp; omega) _⟩; rw [show B1 = false from by (rw [G1.out]; first | (simp only [Bool.and_eq_true, beq_iff_eq]; omega) | (simp only [Bool.and_eq_false_iff, beq_eq_false_iff_ne]; omega)), show B2 = true from by (rw [G2.out]; first | (simp only [Bool.and_eq_true, decide_eq_true_eq]; omega) | (simp only [Bool.and_eq_false_iff, decide_eq_false_iff_not]; omega))])
       | (refine bodyPost_ret (v := .agg #[.int .i64 (tr false), .int .i64 (tr false)]) (by simp [results, Try.results120, go_sem] <;> (refine congrArg tr ?_; simp only [decide_eq_false_iff_not]; omega)) rfl ⟨?_, ((below_alloc _ _).alloc (by simp) _).alloc (by simp; omega) _⟩; rw [show B1 = false from by (rw [G1.out]; first | (simp only [Bool.and_eq_true, beq_iff_eq]; omega) | (simp only [Bool.and_eq_false_iff, beq_eq_false_iff_ne]; omega)), show B2 = false from by (rw [G2.out]; first | (simp only [Bool.and_eq_true, decide_eq_true_eq]; omega) | (simp only [Bool.and_eq_false_iff, decide_eq_false_iff_not]; omega))])
  · have ne : (x1 == x2) = false := by simpa using e
    rcases Int.lt_or_le x2 y1 with l1 | l1 <;> rcases Int.lt_or_le y2 x1 with l2 | l2
    all_goals (try (exfalso; omega))
    all_goals
     go_enter Try.func120, Try.ntmps120
     go_wp2_with (first
       | (go_at_call 105; refine (truth_any _ _).mono ?_; rintro e w1 ⟨rfl, rfl⟩))
     all_goals
       first
       | (refine bodyPost_ret (v := .agg #[.int .i64 (tr true), .int .i64 (tr true)]) (by simp [results, Try.results120, go_sem] <;> (refine congrArg tr ?_; simp only [decide_eq_true_eq, decide_eq_false_iff_not]; omega)) rfl ⟨?_, ((below_alloc _ _).alloc (by simp) _).alloc (by simp; omega) _⟩; rw [show B1 = true from by (rw [G1.out]; first | (simp only [Bool.and_eq_true, beq_iff_eq]; omega) | (simp only [Bool.and_eq_false_iff, beq_eq_false_iff_ne]; omega)), show B2 = true from by (rw [G2.out]; first | (simp only [Bool.and_eq_true, decide_eq_true_eq]; omega) | (simp only [Bool.and_eq_false_iff, decide_eq_false_iff_not]; omega))])
       | (refine bodyPost_ret (v := .agg #[.int .i64 (tr true), .int .i64 (tr false)]) (by simp [results, Try.results120, go_sem] <;> (refine congrArg tr ?_; simp only [decide_eq_true_eq, decide_eq_false_iff_not]; omega)) rfl ⟨?_, ((below_alloc _ _).alloc (by simp) _).alloc (by simp; omega) _⟩; rw [show B1 = true from by (rw [G1.out]; first | (simp only [Bool.and_eq_true, beq_iff_eq]; omega) | (simp only [Bool.and_eq_false_iff, beq_eq_false_iff_ne]; omega)), show B2 = false from by (rw [G2.out]; first | (simp only [Bool.and_eq_true, decide_eq_true_eq]; omega) | (simp only [Bool.and_eq_false_iff, decide_eq_false_iff_not]; omega))])
       | (refine bodyPost_ret (v := .agg #[.int .i64 (tr false), .int .i64 (tr true)]) (by simp [results, Try.results120, go_sem] <;> (refine congrArg tr ?_; simp only [decide_eq_true_eq]; omega)) rfl ⟨?_, ((below_alloc _ _).alloc (by simp) _).alloc (by simp; omega) _⟩; rw [show B1 = false from by (rw [G1.out]; first | (simp only [Bool.and_eq_true, beq_iff_eq]; omega) | (simp only [Bool.and_eq_false_iff, beq_eq_false_iff_ne]; omega)), show B2 = true from by (rw [G2.out]; first | (simp only [Bool.and_eq_true, decide_eq_true_eq]; omega) | (simp only [Bool.and_eq_false_iff, decide_eq_false_iff_not]; omega))])
       | (refine bodyPost_ret (v := .agg #[.int .i64 (tr false), .int .i64 (tr false)]) (by simp [results, Try.results120, go_sem] <;> (refine congrArg tr ?_; simp only [decide_eq_false_iff_not]; omega)) rfl ⟨?_, ((below_alloc _ _).alloc (by simp) _).alloc (by simp; omega) _⟩; rw [show B1 = false from by (rw [G1.out]; first | (simp only [Bool.and_eq_true, beq_iff_eq]; omega) | (simp only [Bool.and_eq_false_iff, beq_eq_false_iff_ne]; omega)), show B2 = false from by (rw [G2.out]; first | (simp only [Bool.and_eq_true, decide_eq_true_eq]; omega) | (simp only [Bool.and_eq_false_iff, decide_eq_false_iff_not]; omega))])
end Go.Proofs.Ythlkbkomecnbaaa
