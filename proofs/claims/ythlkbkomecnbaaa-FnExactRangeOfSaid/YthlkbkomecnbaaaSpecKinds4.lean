/- Whether terms are an expression, of the program and of the model. -/
import Derived.Test.YthlkbkomecnbaaaSpecKinds3
namespace Go.Proofs.Ythlkbkomecnbaaa
open Go.RowKit

/-- Whether terms are an expression. -/
def validB (l : List Tm) (vars : Int) : Bool := !(kindsOf l vars).isEmpty

theorem valid_of (l : List Tm) (vars : Int) : validB l vars = decide (0 < (kindsOf l vars).length) := by
  unfold validB; cases kindsOf l vars <;> simp

theorem valid_impl (A : Option Addr) (n c : Nat) (l : List Tm) (vars : Int) (w : World) (h : Rd w w.heap.size 4 A n (tms l)) (hn : n ≤ maxLen) :
    Calls Try.prog 86 #[.slice A n c, .int .i64 vars] w (GivesBool w (validB l vars)) := by
  rw [valid_of]
  go_enter Try.func86, Try.ntmps86
  go_wp2_with fail
  refine (kindsOf_impl A n c l vars w h hn).mono ?_
  rintro e w' ⟨v, rfl, hown, hb⟩
  obtain ⟨A', c', rfl, _, hR⟩ := own_form hown
  clear hR hown
  go_wp2
  go_ret
  exact ⟨by simp, hb⟩

theorem valid_spec (A : Option Addr) (n c : Nat) (l : List Tm) (vars : Int) (w : World) (h : Rd w w.heap.size 4 A n (tms l)) (hn : n ≤ maxLen) :
    Calls Try.prog 81 #[.slice A n c, .int .i64 vars] w (GivesBool w (validB l vars)) := by
  rw [valid_of]
  go_enter Try.func81, Try.ntmps81
  go_wp2_with fail
  refine (kindsOf_spec A n c l vars w h hn).mono ?_
  rintro e w' ⟨v, rfl, hown, hb⟩
  obtain ⟨A', c', rfl, _, hR⟩ := own_form hown
  clear hR hown
  go_wp2
  go_ret
  exact ⟨by simp, hb⟩
end Go.Proofs.Ythlkbkomecnbaaa
