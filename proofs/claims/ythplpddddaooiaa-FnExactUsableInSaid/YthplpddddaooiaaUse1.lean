/- Systems: rules' numbers, and the value of a rule's expression in the model. -/
import Derived.Test.YthplpddddaooiaaInR
import Derived.Test.YthplpddddaooiaaEvalS2
import Derived.Test.YthplpddddaooiaaEvalB
namespace Go.Proofs.Ythplpddddaooiaa
open Go.RowKit

def ruleIn (s : Sy) (r : Int) : Bool := decide (0 ≤ r) && decide (r < s.rules.length)

theorem hasRule_any (s : Sy) (r : Int) (A1 : Option Addr) (n1 c1 : Nat) (A2 : Option Addr) (n2 c2 : Nat) (w : World) (h2 : Mem.rd w w.heap.size [.slice A2 n2 c2] s.rules) :
    Calls Try.prog 65 #[.agg #[.slice A1 n1 c1, .slice A2 n2 c2], .int .i64 r] w (GivesBool w (ruleIn s r)) := by
  have E : Hid (ruleIn s r = (decide (0 ≤ r) && decide (r < (n2 : Int)))) := Lib.hid (by unfold ruleIn; rw [rd_len h2])
  clear h2
  by_cases q : 0 ≤ r
  · have E2 : Hid (ruleIn s r = decide (r < (n2 : Int))) := Lib.hid (by rw [E.out, decide_eq_true q]; rfl)
    go_enter Try.func65, Try.ntmps65
    go_wp2
    go_ret
    exact ⟨(congrArg (fun b => Ending.returned (.bool b)) E2.out).symm, below_alloc _ _⟩
  · have E2 : Hid (ruleIn s r = false) := Lib.hid (by rw [E.out, decide_eq_false q]; rfl)
    have q' : r < 0 := by omega
    go_enter Try.func65, Try.ntmps65
    go_wp2
    go_ret
    exact ⟨(congrArg (fun b => Ending.returned (.bool b)) E2.out).symm, below_alloc _ _⟩

/-- The value of the last term. -/
def valB (l : List Tm) (st : List Int) : Int := ix (valsTo l st l.length) (l.length - 1)

set_option maxHeartbeats 1000000 in
theorem l2Last_any (A : Option Addr) (n c : Nat) (A' : Option Addr) (n' c' : Nat) (l : List Tm) (st ks : List Int) (w : World) (h : Rd w w.heap.size 4 A n (tms l)) (h' : Rd w w.heap.size 1 A' n' (ints st)) (hn : n ≤ 40) (hn1 : 1 ≤ n)
    (hs : NumsOk st) (hks : kindsTo l st.length n = some ks) : Calls Try.prog 98 #[.slice A n c, .slice A' n' c'] w (GivesInt w (valB l st)) := by
  have E : Hid (valB l st = ix (valsTo l st n) (n - 1)) := Lib.hid (by unfold valB; rw [h.tlen])
  have LV := Lib.hid (l1Values_any A n c A' n' c' l st ks w h h' hn hs hks)
  clear h h' hs hks
  obtain ⟨p, rfl⟩ : ∃ p, n = p + 1 := ⟨n - 1, by omega⟩
  have hp : p ≤ 40 := by omega
  go_enter Try.func98, Try.ntmps98
  go_wp2_with fail
  refine LV.out.mono ?_
  rintro e w2 ⟨v, rfl, ho, b2⟩
  rw [len_vals] at ho
  obtain ⟨A2, c2, rfl, _, _⟩ := own_form ho
  obtain ⟨ad, rfl, _, h0⟩ := (Rd.of_own ho).int (k := p) (by omega)
  go_wp2
  try (go_quiet (fail))
  try go_wp2
  go_ret
  exact ⟨(congrArg (fun z => Ending.returned (.int .i64 z)) E.out).symm, b2⟩
end Go.Proofs.Ythplpddddaooiaa
