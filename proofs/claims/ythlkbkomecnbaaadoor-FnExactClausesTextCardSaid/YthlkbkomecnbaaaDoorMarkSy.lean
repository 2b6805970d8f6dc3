/- The marks of the exact laws over systems. -/
import Derived.Test.YthlkbkomecnbaaaDoorToSy
namespace Go.Proofs.YthlkbkomecnbaaaDoor
open Go.RowKit

/-- The sum of the first k. -/
def sumTo (f : Nat → Nat) : Nat → Nat
  | 0 => 0
  | k + 1 => sumTo f k + f k
theorem sumTo_mono {f : Nat → Nat} {k n : Nat} (h : k ≤ n) : sumTo f k ≤ sumTo f n := by
  induction n with
  | zero => obtain rfl : k = 0 := by omega
            exact Nat.le_refl _
  | succ n ih =>
    by_cases e : k = n + 1
    · subst e; exact Nat.le_refl _
    · have := ih (by omega); show _ ≤ sumTo f n + f n; omega
theorem sumTo_one {f : Nat → Nat} {k n : Nat} (h : k < n) : f k ≤ sumTo f n := by
  have := sumTo_mono (f := f) (show k + 1 ≤ n from h)
  have e : sumTo f (k + 1) = sumTo f k + f k := rfl
  omega
def szLL (L : List (List Tm)) : Nat := L.length + sumTo (fun i => (el L i).length) L.length
def szRl (r : Rl) : Nat := r.cond.length + (r.sets.length + szLL r.terms)
def szRls (L : List Rl) : Nat := L.length + sumTo (fun i => szRl (el L i)) L.length
def szSy (s : Sy) : Nat := s.vars.length + szRls s.rules
theorem Rl.fits_of {r : Rl} (h : szRl r ≤ 1048576) : r.Fits := by
  unfold szRl szLL at h
  exact ⟨by omega, by omega, by omega, fun k hk => by have := sumTo_one (f := fun i => (el r.terms i).length) hk; omega⟩
theorem Sy.fits_of {s : Sy} (h : szSy s ≤ 1048576) : s.Fits := by
  unfold szSy szRls at h
  exact ⟨by omega, by omega, fun k hk => Rl.fits_of (by have := sumTo_one (f := fun i => szRl (el s.rules i)) hk; omega)⟩

/-- What is left of the room behind so much. -/
def rest (left : Int) (m : Nat) : Int := if left < m then -1 else left - m
theorem rest_no {left : Int} {m : Nat} (h : left < m) : rest left m = -1 := if_pos h
theorem rest_yes {left : Int} {m : Nat} (h : m ≤ left) : rest left m = left - m := if_neg (by omega)
/-- The call tells what is left; nothing has changed but by new blocks. -/
def Left (w : World) (left : Int) (m : Nat) (e : Ending) (w' : World) : Prop := e = .returned (.int .i64 (rest left m)) ∧ Below w.heap.size w w'

theorem szIntS_M (A : Option Addr) (n c : Nat) (left : Int) (hn : n ≤ maxLen) (h0 : 0 ≤ left) (h1 : left ≤ 1048576) (w : World) :
    Calls Tryd.prog 19 #[.slice A n c, .int .i64 left] w (fun e w' => e = .returned (.int .i64 (rest left n)) ∧ w = w') := by
  unfold maxLen at hn
  by_cases h : left < n
  · rw [rest_no h]
    go_enter Tryd.func19, Tryd.ntmps19
    go_wp2
    go_ret
    exact ⟨rfl, rfl⟩
  · rw [rest_yes (by omega)]
    go_enter Tryd.func19, Tryd.ntmps19
    go_wp2
    go_ret
    exact ⟨rfl, rfl⟩

end Go.Proofs.YthlkbkomecnbaaaDoor
namespace Go.Proofs.YthlkbkomecnbaaaDoor
open Go.RowKit

/-- The call gives this number, and of what was there only these blocks have changed. -/
def MarksL (w : World) (fp : List Nat) (x : Int) (e : Ending) (w' : World) : Prop := e = .returned (.int .i64 x) ∧ Only fp w w'

theorem nodup_cat {f : Nat → List Nat} : ∀ {n : Nat}, (cat f n).Nodup → ∀ k, k < n → (f k).Nodup ∧ ∀ b ∈ f k, b ∉ cat f k
  | 0, _, k, hk => absurd hk (by omega)
  | n + 1, h, k, hk => by
    rw [cat_succ, List.nodup_append] at h
    by_cases e : k = n
    · subst e; exact ⟨h.2.1, fun b hb hc => h.2.2 b hc b hb rfl⟩
    · exact nodup_cat h.1 k (by omega)

section
variable {α : Type} [Mem α]
/-- An own slice is empty, or a row in the first of its blocks. -/
theorem own_row {w : World} {fp : List Nat} {A : Option Addr} {n c : Nat} {l : List α} (h : Mem.own w fp [.slice A n c] l) : n ≤ maxLen ∧ l.length = n ∧ (n = 0 ∨
    ∃ g t ecs fps, A = some ⟨g, 0, none⟩ ∧ w.ownsRow 0 t (Mem.size α) (.slice A n c) n (cat ecs n) ∧ fp = g :: cat fps n ∧ ∀ k, k < n → Mem.own w (fps k) (ecs k) (el l k)) := by
  obtain ⟨A', n', c', e, hm, hl, h⟩ := h
  injection e with e _
  injection e with e1 e2 e3
  subst e1; subst e2; subst e3
  refine ⟨hm, hl, ?_⟩
  rcases h with ⟨h0, _⟩ | h
  · exact .inl h0
  · exact .inr h
end

/-- How many marks. -/
def mkLL (L : List (List Tm)) : Nat := sumTo (fun i => 4 * (el L i).length) L.length
theorem sum_le {f g : Nat → Nat} {n : Nat} (h : ∀ k, k < n → f k ≤ g k) : sumTo f n ≤ sumTo g n := by
  induction n with
  | zero => exact Nat.le_refl _
  | succ n ih => have := ih fun k hk => h k (by omega); have := h n (by omega); show sumTo f n + f n ≤ sumTo g n + g n; omega
theorem sum_four {f : Nat → Nat} {n : Nat} : sumTo (fun i => 4 * f i) n = 4 * sumTo f n := by
  induction n with
  | zero => rfl
  | succ n ih => show sumTo (fun i => 4 * f i) n + 4 * f n = 4 * (sumTo f n + f n); omega
theorem mkLL_le (L : List (List Tm)) : mkLL L ≤ 4 * szLL L := by unfold mkLL szLL; rw [sum_four]; omega

end Go.Proofs.YthlkbkomecnbaaaDoor
namespace Go.Proofs.YthlkbkomecnbaaaDoor
open Go.RowKit

def mkRl (r : Rl) : Nat := 4 * r.cond.length + (r.sets.length + mkLL r.terms)
theorem mkRl_le (r : Rl) : mkRl r ≤ 4 * szRl r := by have := mkLL_le r.terms; unfold mkRl szRl; omega
def mkRls (L : List Rl) : Nat := sumTo (fun i => mkRl (el L i)) L.length
theorem mkRls_le (L : List Rl) : mkRls L ≤ 4 * szRls L := by
  have := sum_le (f := fun i => mkRl (el L i)) (g := fun i => 4 * szRl (el L i)) (n := L.length) fun k _ => mkRl_le _
  rw [sum_four] at this
  unfold mkRls szRls; omega

def mkSy (s : Sy) : Nat := 3 * s.vars.length + mkRls s.rules
end Go.Proofs.YthlkbkomecnbaaaDoor
