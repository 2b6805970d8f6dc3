/- Diagrams: what an operation makes of two places, in the model. -/
import Derived.Test.YtfkdggiigomgkaaDgG1
import Derived.Test.YtfkdggiigomgkaaDgG2
import Derived.Test.YtfkdggiigomgkaaDgG3
import Derived.Test.YtfkdggiigomgkaaDgG4
import Derived.Test.YtfkdggiigomgkaaDgH00
import Derived.Test.YtfkdggiigomgkaaDgH01
import Derived.Test.YtfkdggiigomgkaaDgH02
import Derived.Test.YtfkdggiigomgkaaDgH10
import Derived.Test.YtfkdggiigomgkaaDgH11
import Derived.Test.YtfkdggiigomgkaaDgH12
import Derived.Test.YtfkdggiigomgkaaDgH20
import Derived.Test.YtfkdggiigomgkaaDgH21
import Derived.Test.YtfkdggiigomgkaaDgH22
namespace Go.Proofs.Ytfkdggiigomgkaa
open Go.RowKit

/-- The call gives the diagram as it was, and a place. -/
def GivesSame (m : Int) (A : Option Addr) (n c : Nat) (x : Int) (w : World) (e : Ending) (w' : World) : Prop := e = .returned (.tuple #[.agg #[.int .i64 m, .slice A n c], .int .i64 x]) ∧ Below w.heap.size w w'
theorem same_de {d : Dg} {A : Option Addr} {c : Nat} {x : Int} {base : Nat} {w w' : World} {e : Ending} (ho : w.ownsRow base 52 3 (.slice A d.forks.length c) d.forks.length (fl d.forks)) (hx : 0 ≤ x) (h : GivesSame d.vars A d.forks.length c x w e w') :
    GivesDE base (bl (.slice A d.forks.length c)) (.slice A d.forks.length c) d.forks.length w (d, x) e w' := by
  obtain ⟨rfl, b⟩ := h
  exact ⟨Only.of_below b _, KeptD.of_below b _ _, .inr ⟨hx, A, c, rfl, own_below ho b, fun y hy => .inl hy⟩⟩
theorem l8Do_and0 (m : Int) (A : Option Addr) (n c : Nat) (a b : Int) (w : World) (h : a = 0 ∨ b = 0) (h2 : ¬ (a < 2 ∧ b < 2)) : Calls Try.prog 84 #[.agg #[.int .i64 m, .slice A n c], .int .i64 0, .int .i64 a, .int .i64 b] w (GivesSame m A n c 0 w) := by
  by_cases ha : a = 0
  · subst ha
    have hb : ¬ b < 2 := by omega
    go_enter Try.func84, Try.ntmps84
    go_wp2
    exact bodyPost_ret (v := .tuple #[.agg #[.int .i64 m, .slice A n c], .int .i64 0]) (by simp [results, Try.results84, go_sem]) rfl ⟨rfl, (below_alloc w _).alloc (by simp) _⟩
  · have hb : b = 0 := by omega
    subst hb
    have ha2 : ¬ a < 2 := by omega
    have g : (a == 0) = false := by simp [ha]
    go_enter Try.func84, Try.ntmps84
    go_wp2
    exact bodyPost_ret (v := .tuple #[.agg #[.int .i64 m, .slice A n c], .int .i64 0]) (by simp [results, Try.results84, go_sem]) rfl ⟨rfl, (below_alloc w _).alloc (by simp) _⟩
theorem l8Do_or1 (m : Int) (A : Option Addr) (n c : Nat) (a b : Int) (w : World) (h : a = 1 ∨ b = 1) (h2 : ¬ (a < 2 ∧ b < 2)) : Calls Try.prog 84 #[.agg #[.int .i64 m, .slice A n c], .int .i64 1, .int .i64 a, .int .i64 b] w (GivesSame m A n c 1 w) := by
  by_cases ha : a = 1
  · subst ha
    have hb : ¬ b < 2 := by omega
    go_enter Try.func84, Try.ntmps84
    go_wp2
    exact bodyPost_ret (v := .tuple #[.agg #[.int .i64 m, .slice A n c], .int .i64 1]) (by simp [results, Try.results84, go_sem]) rfl ⟨rfl, (below_alloc w _).alloc (by simp) _⟩
  · have hb : b = 1 := by omega
    subst hb
    have ha2 : ¬ a < 2 := by omega
    have g : (a == 1) = false := by simp [ha]
    go_enter Try.func84, Try.ntmps84
    go_wp2
    exact bodyPost_ret (v := .tuple #[.agg #[.int .i64 m, .slice A n c], .int .i64 1]) (by simp [results, Try.results84, go_sem]) rfl ⟨rfl, (below_alloc w _).alloc (by simp) _⟩
/-- The model's number of an operation. -/
def omOf (op : Int) : Int := if op = 0 then 2 else op - 1
theorem l8Do_val (d : Dg) (A : Option Addr) (n c : Nat) (op a b x : Int) (w : World) (o3 : op < 3) (g : fitA d op a b) (e : stp d op a b = .val x) :
    Calls Try.prog 84 #[.agg #[.int .i64 d.vars, .slice A n c], .int .i64 (omOf op), .int .i64 a, .int .i64 b] w (GivesSame d.vars A n c x w) := by
  have ha := isP_iff.1 g.pa
  have hb := isP_iff.1 (g.pb o3)
  have o0 := g.o0
  have hn := g.n
  have cs : op = 0 ∨ op = 1 ∨ op = 2 := by omega
  unfold stp at e
  rw [if_pos o3] at e
  by_cases c3 : 2 ≤ a ∨ 2 ≤ b
  · have h2 : ¬ (a < 2 ∧ b < 2) := by omega
    by_cases c1 : op = 1 ∧ (a = 0 ∨ b = 0)
    · rw [if_pos c1] at e
      injection e with e
      subst e
      obtain ⟨rfl, c1⟩ := c1
      exact l8Do_and0 d.vars A n c a b w c1 h2
    · rw [if_neg c1] at e
      by_cases c2 : op = 2 ∧ (a = 1 ∨ b = 1)
      · rw [if_pos c2] at e
        injection e with e
        subst e
        obtain ⟨rfl, c2⟩ := c2
        exact l8Do_or1 d.vars A n c a b w c2 h2
      · rw [if_neg c2, if_pos c3] at e; cases e
  · have ga : a = 0 ∨ a = 1 := by omega
    have gb : b = 0 ∨ b = 1 := by omega
    rcases cs with rfl | rfl | rfl
    · have := hn rfl
      subst this
      rw [if_neg (by omega), if_neg (by omega), if_neg c3, if_pos rfl] at e
      injection e with e
      subst e
      rcases ga with rfl | rfl
      · exact l8Do_201 d.vars A n c w
      · exact l8Do_211 d.vars A n c w
    · rcases ga with rfl | rfl <;> rcases gb with rfl | rfl
      · rw [if_pos (by decide)] at e; injection e with e; subst e; exact l8Do_000 d.vars A n c w
      · rw [if_pos (by decide)] at e; injection e with e; subst e; exact l8Do_001 d.vars A n c w
      · rw [if_pos (by decide)] at e; injection e with e; subst e; exact l8Do_010 d.vars A n c w
      · rw [if_neg (by decide), if_neg (by decide), if_neg c3, if_neg (by decide)] at e; injection e with e; subst e; exact l8Do_011 d.vars A n c w
    · rcases ga with rfl | rfl <;> rcases gb with rfl | rfl
      · rw [if_neg (by decide), if_neg (by decide), if_neg c3, if_neg (by decide)] at e; injection e with e; subst e; exact l8Do_100 d.vars A n c w
      · rw [if_neg (by decide), if_pos (by decide)] at e; injection e with e; subst e; exact l8Do_101 d.vars A n c w
      · rw [if_neg (by decide), if_pos (by decide)] at e; injection e with e; subst e; exact l8Do_110 d.vars A n c w
      · rw [if_neg (by decide), if_pos (by decide)] at e; injection e with e; subst e; exact l8Do_111 d.vars A n c w
theorem l8Do_any (op : Int) (o3 : op < 3) (k : Nat) : ∀ (d : Dg) (A : Option Addr) (c : Nat) (a b : Int) (base : Nat) (w : World), w.ownsRow base 52 3 (.slice A d.forks.length c) d.forks.length (fl d.forks) → base ≤ w.heap.size → d.Ok → fitA d op a b → d.vars - rk d op a b < k →
    Calls Try.prog 84 #[.agg #[.int .i64 d.vars, .slice A d.forks.length c], .int .i64 (omOf op), .int .i64 a, .int .i64 b] w (GivesDE base (bl (.slice A d.forks.length c)) (.slice A d.forks.length c) d.forks.length w (runF op k d a b)) := by
  induction k with
  | zero => intro d A c a b base w _ _ ok g hk; have := rk_le ok g; omega
  | succ k ih =>
    intro d A c a b base w ho hb ok g hk
    cases e : stp d op a b with
    | val x =>
      rw [runF_val e]
      have hx := (isP_iff.1 (stp_val ok g e).1).1
      exact (l8Do_val d A d.forks.length c op a b x w o3 g e).mono fun _ _ h => same_de ho hx h
    | two v a0 b0 a1 b1 =>
      have o0 := g.o0
      have cs : op = 0 ∨ op = 1 ∨ op = 2 := by omega
      by_cases ha : a < 2
      · rcases cs with rfl | rfl | rfl
        · exact l8Do_step20 k ih d A c a b base w ho hb ok g hk v a0 b0 a1 b1 e ha
        · exact l8Do_step00 k ih d A c a b base w ho hb ok g hk v a0 b0 a1 b1 e ha
        · exact l8Do_step10 k ih d A c a b base w ho hb ok g hk v a0 b0 a1 b1 e ha
      · by_cases hlt : varP d b < varP d a
        · rcases cs with rfl | rfl | rfl
          · exact l8Do_step21 k ih d A c a b base w ho hb ok g hk v a0 b0 a1 b1 e (by omega) hlt
          · exact l8Do_step01 k ih d A c a b base w ho hb ok g hk v a0 b0 a1 b1 e (by omega) hlt
          · exact l8Do_step11 k ih d A c a b base w ho hb ok g hk v a0 b0 a1 b1 e (by omega) hlt
        · rcases cs with rfl | rfl | rfl
          · exact l8Do_step22 k ih d A c a b base w ho hb ok g hk v a0 b0 a1 b1 e (by omega) hlt
          · exact l8Do_step02 k ih d A c a b base w ho hb ok g hk v a0 b0 a1 b1 e (by omega) hlt
          · exact l8Do_step12 k ih d A c a b base w ho hb ok g hk v a0 b0 a1 b1 e (by omega) hlt
end Go.Proofs.Ytfkdggiigomgkaa
