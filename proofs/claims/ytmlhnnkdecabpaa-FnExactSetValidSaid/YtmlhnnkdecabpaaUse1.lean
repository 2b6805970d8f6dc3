/- Systems: rules' numbers, and the value of a rule's expression in the model. -/
import Derived.Test.YtmlhnnkdecabpaaInR
import Derived.Test.YtmlhnnkdecabpaaRules
import Derived.Test.YtmlhnnkdecabpaaEvalS2
import Derived.Test.YtmlhnnkdecabpaaEvalB
namespace Go.Proofs.Ytmlhnnkdecabpaa
open Go.RowKit

/-- The value of the last term. -/
def valB (l : List Tm) (st : List Int) : Int := ix (valsTo l st l.length) (l.length - 1)

set_option maxHeartbeats 1000000 in
theorem l2Last_any (A : Option Addr) (n c : Nat) (A' : Option Addr) (n' c' : Nat) (l : List Tm) (st ks : List Int) (w : World) (h : Rd w w.heap.size 4 A n (tms l)) (h' : Rd w w.heap.size 1 A' n' (ints st)) (hn : n ≤ 40) (hn1 : 1 ≤ n)
    (hs : NumsOk st) (hks : kindsTo l st.length n = some ks) : Calls Try.prog 75 #[.slice A n c, .slice A' n' c'] w (GivesInt w (valB l st)) := by
  have E : Hid (valB l st = ix (valsTo l st n) (n - 1)) := Lib.hid (by unfold valB; rw [h.tlen])
  have LV := Lib.hid (l1Values_any A n c A' n' c' l st ks w h h' hn hs hks)
  clear h h' hs hks
  obtain ⟨p, rfl⟩ : ∃ p, n = p + 1 := ⟨n - 1, by omega⟩
  have hp : p ≤ 40 := by omega
  go_enter Try.func75, Try.ntmps75
  go_wp2_with fail
  refine LV.out.mono ?_
  rintro e w2 ⟨v, rfl, ho, b2⟩
  rw [len_vals] at ho
  obtain ⟨A2, c2, rfl, _, _⟩ := own_form ho
  obtain ⟨ad, rfl, _, h0⟩ := (Rd.of_own ho).int (k := p) (by omega)
  go_wp2
  try (go_quiet (fail))
  try go_wp2
  go_ret
  exact ⟨(congrArg (fun z => Ending.returned (.int .i64 z)) E.out).symm, b2⟩
end Go.Proofs.Ytmlhnnkdecabpaa
