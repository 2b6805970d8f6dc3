/- Whether terms are an expression, of the program and of the model. -/
import Derived.Test.YtpmigfnfcfclpaaSpecKinds3
namespace Go.Proofs.Ytpmigfnfcfclpaa
open Go.RowKit

/-- Whether terms are an expression. -/
def validB (l : List Tm) (vars : Int) : Bool := !(kindsOf l vars).isEmpty

theorem valid_of (l : List Tm) (vars : Int) : validB l vars = decide (0 < (kindsOf l vars).length) := by
  unfold validB; cases kindsOf l vars <;> simp

theorem valid_impl (A : Option Addr) (n c : Nat) (l : List Tm) (vars : Int) (w : World) (h : Rd w w.heap.size 4 A n (tms l)) (hn : n ≤ maxLen) :
    Calls Try.prog 23 #[.slice A n c, .int .i64 vars] w (GivesBool w (validB l vars)) := by
  rw [valid_of]
  go_enter Try.func23, Try.ntmps23
  go_wp2_with fail
  refine (kindsOf_impl A n c l vars w h hn).mono ?_
  rintro e w' ⟨v, rfl, hown, hb⟩
  obtain ⟨A', c', rfl, _, hR⟩ := own_form hown
  clear hR hown
  go_wp2
  go_ret
  exact ⟨by simp, hb⟩

theorem valid_spec (A : Option Addr) (n c : Nat) (l : List Tm) (vars : Int) (w : World) (h : Rd w w.heap.size 4 A n (tms l)) (hn : n ≤ maxLen) :
    Calls Try.prog 20 #[.slice A n c, .int .i64 vars] w (GivesBool w (validB l vars)) := by
  rw [valid_of]
  go_enter Try.func20, Try.ntmps20
  go_wp2_with fail
  refine (kindsOf_spec A n c l vars w h hn).mono ?_
  rintro e w' ⟨v, rfl, hown, hb⟩
  obtain ⟨A', c', rfl, _, hR⟩ := own_form hown
  clear hR hown
  go_wp2
  go_ret
  exact ⟨by simp, hb⟩
end Go.Proofs.Ytpmigfnfcfclpaa
