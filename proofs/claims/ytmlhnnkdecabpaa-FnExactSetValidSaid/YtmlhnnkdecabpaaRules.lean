/- The numbers of a system's rules. -/
import Derived.Test.YtmlhnnkdecabpaaSysD
import Derived.Test.YtmlhnnkdecabpaaSysE
namespace Go.Proofs.Ytmlhnnkdecabpaa
open Go.RowKit

def ruleIn (s : Sy) (r : Int) : Bool := decide (0 ≤ r) && decide (r < s.rules.length)


theorem hasRule_any (s : Sy) (r : Int) (A1 : Option Addr) (n1 c1 : Nat) (A2 : Option Addr) (n2 c2 : Nat) (w : World) (h2 : Mem.rd w w.heap.size [.slice A2 n2 c2] s.rules) :
    Calls Try.prog 81 #[.agg #[.slice A1 n1 c1, .slice A2 n2 c2], .int .i64 r] w (GivesBool w (ruleIn s r)) := by
  have E : Hid (ruleIn s r = (decide (0 ≤ r) && decide (r < (n2 : Int)))) := Lib.hid (by unfold ruleIn; rw [rd_len h2])
  clear h2
  by_cases q : 0 ≤ r
  · have E2 : Hid (ruleIn s r = decide (r < (n2 : Int))) := Lib.hid (by rw [E.out, decide_eq_true q]; rfl)
    go_enter Try.func81, Try.ntmps81
    go_wp2
    go_ret
    exact ⟨(congrArg (fun b => Ending.returned (.bool b)) E2.out).symm, below_alloc _ _⟩
  · have E2 : Hid (ruleIn s r = false) := Lib.hid (by rw [E.out, decide_eq_false q]; rfl)
    have q' : r < 0 := by omega
    go_enter Try.func81, Try.ntmps81
    go_wp2
    go_ret
    exact ⟨(congrArg (fun b => Ending.returned (.bool b)) E2.out).symm, below_alloc _ _⟩


theorem ruleIn_at {s : Sy} {r : Int} (h : ruleIn s r = true) : ∃ k : Nat, r = k ∧ k < s.rules.length := by
  unfold ruleIn at h
  simp at h
  exact ⟨r.toNat, by omega, by omega⟩

end Go.Proofs.Ytmlhnnkdecabpaa
