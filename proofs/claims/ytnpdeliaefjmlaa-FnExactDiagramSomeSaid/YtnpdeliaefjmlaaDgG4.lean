/- Diagrams: what an operation makes of two constants, in the model. -/
import Derived.Test.YtnpdeliaefjmlaaDgH
namespace Go.Proofs.Ytnpdeliaefjmlaa
open Go.RowKit
set_option maxRecDepth 100000

set_option maxRecDepth 100000 in
set_option maxHeartbeats 2000000 in
theorem l8Do_110 (m : Int) (A : Option Addr) (n c : Nat) (w : World) :
    Calls Try.prog 113 #[.agg #[.int .i64 m, .slice A n c], .int .i64 1, .int .i64 1, .int .i64 0] w (fun e w' => e = .returned (.tuple #[.agg #[.int .i64 m, .slice A n c], .int .i64 1]) ∧ Below w.heap.size w w') := by
  go_enter Try.func113, Try.ntmps113
  go_wp2
  go_region_law (fail)
  all_goals
    go_wp2
    exact bodyPost_ret (v := .tuple #[.agg #[.int .i64 m, .slice A n c], .int .i64 1]) (by simp [results, Try.results113, go_sem] <;> decide) rfl ⟨rfl, below3 rfl rfl rfl rfl⟩

set_option maxRecDepth 100000 in
set_option maxHeartbeats 2000000 in
theorem l8Do_111 (m : Int) (A : Option Addr) (n c : Nat) (w : World) :
    Calls Try.prog 113 #[.agg #[.int .i64 m, .slice A n c], .int .i64 1, .int .i64 1, .int .i64 1] w (fun e w' => e = .returned (.tuple #[.agg #[.int .i64 m, .slice A n c], .int .i64 1]) ∧ Below w.heap.size w w') := by
  go_enter Try.func113, Try.ntmps113
  go_wp2
  go_region_law (fail)
  all_goals
    go_wp2
    exact bodyPost_ret (v := .tuple #[.agg #[.int .i64 m, .slice A n c], .int .i64 1]) (by simp [results, Try.results113, go_sem] <;> decide) rfl ⟨rfl, below3 rfl rfl rfl rfl⟩
end Go.Proofs.Ytnpdeliaefjmlaa
