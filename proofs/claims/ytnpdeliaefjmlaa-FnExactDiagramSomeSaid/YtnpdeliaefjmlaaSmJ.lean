/- Diagrams: the or of two places, in the model. -/
import Derived.Test.YtnpdeliaefjmlaaDgG3
import Derived.Test.YtnpdeliaefjmlaaDgG4
import Derived.Test.YtnpdeliaefjmlaaDgH10
import Derived.Test.YtnpdeliaefjmlaaDgH11
import Derived.Test.YtnpdeliaefjmlaaDgH12
namespace Go.Proofs.Ytnpdeliaefjmlaa
open Go.RowKit
set_option maxRecDepth 100000

/-- The call gives the diagram as it was, and a place. -/
def GivesSameO (m : Int) (A : Option Addr) (n c : Nat) (x : Int) (w : World) (e : Ending) (w' : World) : Prop := e = .returned (.tuple #[.agg #[.int .i64 m, .slice A n c], .int .i64 x]) ∧ Below w.heap.size w w'
theorem same_deO {d : Dg} {A : Option Addr} {c : Nat} {x : Int} {base : Nat} {w w' : World} {e : Ending} (ho : w.ownsRow base 100 3 (.slice A d.forks.length c) d.forks.length (fl d.forks)) (hx : 0 ≤ x) (h : GivesSameO d.vars A d.forks.length c x w e w') :
    GivesDE base (bl (.slice A d.forks.length c)) (.slice A d.forks.length c) d.forks.length w (d, x) e w' := by
  obtain ⟨rfl, b⟩ := h
  exact ⟨Only.of_below b _, KeptD.of_below b _ _, .inr ⟨hx, A, c, rfl, own_below ho b, fun y hy => .inl hy⟩⟩
theorem l8Or_one (m : Int) (A : Option Addr) (n c : Nat) (a b : Int) (w : World) (h : a = 1 ∨ b = 1) (h2 : ¬ (a < 2 ∧ b < 2)) : Calls Try.prog 113 #[.agg #[.int .i64 m, .slice A n c], .int .i64 1, .int .i64 a, .int .i64 b] w (GivesSameO m A n c 1 w) := by
  by_cases ha : a = 1
  · subst ha
    have hb : ¬ b < 2 := by omega
    go_enter Try.func113, Try.ntmps113
    go_wp2
    exact bodyPost_ret (v := .tuple #[.agg #[.int .i64 m, .slice A n c], .int .i64 1]) (by simp [results, Try.results113, go_sem]) rfl ⟨rfl, (below_alloc w _).alloc (by simp) _⟩
  · have hb : b = 1 := by omega
    subst hb
    have ha2 : ¬ a < 2 := by omega
    have g : (a == 1) = false := by simp [ha]
    go_enter Try.func113, Try.ntmps113
    go_wp2
    exact bodyPost_ret (v := .tuple #[.agg #[.int .i64 m, .slice A n c], .int .i64 1]) (by simp [results, Try.results113, go_sem]) rfl ⟨rfl, (below_alloc w _).alloc (by simp) _⟩
theorem l8Or_val (d : Dg) (A : Option Addr) (n c : Nat) (a b x : Int) (w : World) (g : fitA d 2 a b) (e : stp d 2 a b = .val x) :
    Calls Try.prog 113 #[.agg #[.int .i64 d.vars, .slice A n c], .int .i64 1, .int .i64 a, .int .i64 b] w (GivesSameO d.vars A n c x w) := by
  have ha := isP_iff.1 g.pa
  have hb := isP_iff.1 (g.pb (by decide))
  unfold stp at e
  rw [if_pos (by decide), if_neg (fun h => absurd h.1 (by decide))] at e
  by_cases c3 : 2 ≤ a ∨ 2 ≤ b
  · have h2 : ¬ (a < 2 ∧ b < 2) := by omega
    by_cases c2 : a = 1 ∨ b = 1
    · rw [if_pos ⟨rfl, c2⟩] at e
      injection e with e
      subst e
      exact l8Or_one d.vars A n c a b w c2 h2
    · rw [if_neg (fun h => c2 h.2), if_pos c3] at e; cases e
  · have ga : a = 0 ∨ a = 1 := by omega
    have gb : b = 0 ∨ b = 1 := by omega
    rcases ga with rfl | rfl <;> rcases gb with rfl | rfl
    · rw [if_neg (by decide), if_neg c3, if_neg (by decide)] at e; injection e with e; subst e; exact l8Do_100 d.vars A n c w
    · rw [if_pos (by decide)] at e; injection e with e; subst e; exact l8Do_101 d.vars A n c w
    · rw [if_pos (by decide)] at e; injection e with e; subst e; exact l8Do_110 d.vars A n c w
    · rw [if_pos (by decide)] at e; injection e with e; subst e; exact l8Do_111 d.vars A n c w
theorem l8Or_any (k : Nat) : ∀ (d : Dg) (A : Option Addr) (c : Nat) (a b : Int) (base : Nat) (w : World), w.ownsRow base 100 3 (.slice A d.forks.length c) d.forks.length (fl d.forks) → base ≤ w.heap.size → d.Ok → fitA d 2 a b → d.vars - rk d 2 a b < k →
    Calls Try.prog 113 #[.agg #[.int .i64 d.vars, .slice A d.forks.length c], .int .i64 1, .int .i64 a, .int .i64 b] w (GivesDE base (bl (.slice A d.forks.length c)) (.slice A d.forks.length c) d.forks.length w (runF 2 k d a b)) := by
  induction k with
  | zero => intro d A c a b base w _ _ ok g hk; have := rk_le ok g; omega
  | succ k ih =>
    intro d A c a b base w ho hb ok g hk
    cases e : stp d 2 a b with
    | val x =>
      rw [runF_val e]
      have hx := (isP_iff.1 (stp_val ok g e).1).1
      exact (l8Or_val d A d.forks.length c a b x w g e).mono fun _ _ h => same_deO ho hx h
    | two v a0 b0 a1 b1 =>
      by_cases ha : a < 2
      · exact l8Do_step10 k ih d A c a b base w ho hb ok g hk v a0 b0 a1 b1 e ha
      · by_cases hlt : varP d b < varP d a
        · exact l8Do_step11 k ih d A c a b base w ho hb ok g hk v a0 b0 a1 b1 e (by omega) hlt
        · exact l8Do_step12 k ih d A c a b base w ho hb ok g hk v a0 b0 a1 b1 e (by omega) hlt
end Go.Proofs.Ytnpdeliaefjmlaa
