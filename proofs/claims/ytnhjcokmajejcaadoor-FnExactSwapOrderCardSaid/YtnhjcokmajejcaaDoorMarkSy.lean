/- The marks of the exact laws over systems. -/
import Derived.Test.YtnhjcokmajejcaaDoorToSy
namespace Go.Proofs.YtnhjcokmajejcaaDoor
open Go.RowKit

/-- The sum of the first k. -/
def sumTo (f : Nat → Nat) : Nat → Nat
  | 0 => 0
  | k + 1 => sumTo f k + f k
theorem sumTo_mono {f : Nat → Nat} {k n : Nat} (h : k ≤ n) : sumTo f k ≤ sumTo f n := by
  induction n with
  | zero => obtain rfl : k = 0 := by omega
            exact Nat.le_refl _
  | succ n ih =>
    by_cases e : k = n + 1
    · subst e; exact Nat.le_refl _
    · have := ih (by omega); show _ ≤ sumTo f n + f n; omega
theorem sumTo_one {f : Nat → Nat} {k n : Nat} (h : k < n) : f k ≤ sumTo f n := by
  have := sumTo_mono (f := f) (show k + 1 ≤ n from h)
  have e : sumTo f (k + 1) = sumTo f k + f k := rfl
  omega
def szLL (L : List (List Tm)) : Nat := L.length + sumTo (fun i => (el L i).length) L.length
def szRl (r : Rl) : Nat := r.cond.length + (r.sets.length + szLL r.terms)
def szRls (L : List Rl) : Nat := L.length + sumTo (fun i => szRl (el L i)) L.length
def szSy (s : Sy) : Nat := s.vars.length + szRls s.rules
theorem Rl.fits_of {r : Rl} (h : szRl r ≤ 1048576) : r.Fits := by
  unfold szRl szLL at h
  exact ⟨by omega, by omega, by omega, fun k hk => by have := sumTo_one (f := fun i => (el r.terms i).length) hk; omega⟩
theorem Sy.fits_of {s : Sy} (h : szSy s ≤ 1048576) : s.Fits := by
  unfold szSy szRls at h
  exact ⟨by omega, by omega, fun k hk => Rl.fits_of (by have := sumTo_one (f := fun i => szRl (el s.rules i)) hk; omega)⟩

/-- What is left of the room behind so much. -/
def rest (left : Int) (m : Nat) : Int := if left < m then -1 else left - m
theorem rest_no {left : Int} {m : Nat} (h : left < m) : rest left m = -1 := if_pos h
theorem rest_yes {left : Int} {m : Nat} (h : m ≤ left) : rest left m = left - m := if_neg (by omega)
/-- The call tells what is left; nothing has changed but by new blocks. -/
def Left (w : World) (left : Int) (m : Nat) (e : Ending) (w' : World) : Prop := e = .returned (.int .i64 (rest left m)) ∧ Below w.heap.size w w'

end Go.Proofs.YtnhjcokmajejcaaDoor
namespace Go.Proofs.YtnhjcokmajejcaaDoor
open Go.RowKit

/-- The call gives this number, and of what was there only these blocks have changed. -/
def MarksL (w : World) (fp : List Nat) (x : Int) (e : Ending) (w' : World) : Prop := e = .returned (.int .i64 x) ∧ Only fp w w'

theorem nodup_cat {f : Nat → List Nat} : ∀ {n : Nat}, (cat f n).Nodup → ∀ k, k < n → (f k).Nodup ∧ ∀ b ∈ f k, b ∉ cat f k
  | 0, _, k, hk => absurd hk (by omega)
  | n + 1, h, k, hk => by
    rw [cat_succ, List.nodup_append] at h
    by_cases e : k = n
    · subst e; exact ⟨h.2.1, fun b hb hc => h.2.2 b hc b hb rfl⟩
    · exact nodup_cat h.1 k (by omega)

set_option maxHeartbeats 1000000 in
theorem markIntS_t (t : TypeId) (base : Nat) (A : Option Addr) (n c : Nat) (xs : List Value) (q : Int) (w : World) (hown : w.ownsRow base t 1 (.slice A n c) n xs) (hq : 0 ≤ q) (hq' : q ≤ 1000000000000) (hn : n ≤ 1000000000000) :
    Calls Tryd.prog 24 #[.slice A n c, .int .i64 q] w (fun e w' => e = .returned (.int .i64 (q + n)) ∧ w.grownBy w' (Value.slice A n c).ownBlock) := by
  go_enter Tryd.func24, Tryd.ntmps24
  go_wp2
  go_loopg [1, 5] n (fun m j i wr => ∃ (k : Nat) (xs : List Value), k + m = n ∧ i = .int .i64 k ∧ j = .int .i64 (q + k) ∧ wr.ownsRow base t 1 (.slice A n c) n xs ∧ w.grownBy wr (Value.slice A n c).ownBlock)
  case atStart => exact ⟨0, xs, by omega, rfl, by simp, hown, World.grownBy.refl _ _⟩
  case round =>
    clear hown
    obtain ⟨k, ys, hk, rfl, rfl, ho, hg⟩ := hrel
    by_cases hlt : k < n
    · rcases ho.2 with ⟨_, h0⟩ | ⟨g, cap, cur, hv, _⟩
      · omega
      injection hv with hA _ hc
      subst hA
      subst hc
      obtain ⟨u0, c0⟩ : ∃ u, wr.cell? ⟨g, k, none⟩ = some u := by
        rw [ho.cellAt k (by omega)]
        exact ⟨_, List.getElem?_eq_getElem (by rw [ho.1]; omega)⟩
      have f0 := ho.frozenAt k
      go_wp2
      go_roundg (n - (k + 1))
      case measure => omega
      case rel =>
        have s0 := ho.stored k (.int .i64 (q + k))
        exact ⟨k + 1, _, by omega, by go_num, by go_num, s0.1, grown_trans hg s0.2⟩
    · obtain rfl : k = n := by omega
      go_wp2
      go_ret
      exact ⟨rfl, hg⟩

section
variable {α : Type} [Mem α]
/-- An own slice is empty, or a row in the first of its blocks. -/
theorem own_row {w : World} {fp : List Nat} {A : Option Addr} {n c : Nat} {l : List α} (h : Mem.own w fp [.slice A n c] l) : n ≤ maxLen ∧ l.length = n ∧ (n = 0 ∨
    ∃ g t ecs fps, A = some ⟨g, 0, none⟩ ∧ w.ownsRow 0 t (Mem.size α) (.slice A n c) n (cat ecs n) ∧ fp = g :: cat fps n ∧ ∀ k, k < n → Mem.own w (fps k) (ecs k) (el l k)) := by
  obtain ⟨A', n', c', e, hm, hl, h⟩ := h
  injection e with e _
  injection e with e1 e2 e3
  subst e1; subst e2; subst e3
  refine ⟨hm, hl, ?_⟩
  rcases h with ⟨h0, _⟩ | h
  · exact .inl h0
  · exact .inr h
end

theorem markIntS_M (A : Option Addr) (n c : Nat) (l : List Int) (fp : List Nat) (q : Int) (w : World) (h : Mem.own w fp [.slice A n c] l) (hq : 0 ≤ q) (hq' : q ≤ 1000000000000) (hn : l.length ≤ 1048576) :
    Calls Tryd.prog 24 #[.slice A n c, .int .i64 q] w (MarksL w fp (q + l.length)) := by
  obtain ⟨_, hl, h0 | ⟨g, t, ecs, fps, rfl, ho, rfl, _⟩⟩ := own_row h
  · subst h0
    rw [hl]
    clear h hl
    go_enter Tryd.func24, Tryd.ntmps24
    go_wp2
    go_loopg [1, 5] 0 (fun m j i wr => i = .int .i64 0 ∧ j = .int .i64 q ∧ wr = w)
    case atStart => exact ⟨rfl, rfl, rfl⟩
    case round =>
      obtain ⟨rfl, rfl, rfl⟩ := hrel
      go_wp2
      go_ret
      exact ⟨by simp, Only.refl _ _⟩
  · refine (markIntS_t t 0 _ n c _ q w ho hq hq' (by omega)).mono ?_
    rintro e w' ⟨rfl, hg⟩
    exact ⟨by rw [hl], Only.of_grown hg fun k hk => by simp [Value.ownBlock] at hk; simp [hk]⟩

/-- How many marks. -/
def mkLL (L : List (List Tm)) : Nat := sumTo (fun i => 4 * (el L i).length) L.length
theorem sum_le {f g : Nat → Nat} {n : Nat} (h : ∀ k, k < n → f k ≤ g k) : sumTo f n ≤ sumTo g n := by
  induction n with
  | zero => exact Nat.le_refl _
  | succ n ih => have := ih fun k hk => h k (by omega); have := h n (by omega); show sumTo f n + f n ≤ sumTo g n + g n; omega
theorem sum_four {f : Nat → Nat} {n : Nat} : sumTo (fun i => 4 * f i) n = 4 * sumTo f n := by
  induction n with
  | zero => rfl
  | succ n ih => show sumTo (fun i => 4 * f i) n + 4 * f n = 4 * (sumTo f n + f n); omega
theorem mkLL_le (L : List (List Tm)) : mkLL L ≤ 4 * szLL L := by unfold mkLL szLL; rw [sum_four]; omega

end Go.Proofs.YtnhjcokmajejcaaDoor
namespace Go.Proofs.YtnhjcokmajejcaaDoor
open Go.RowKit

def mkRl (r : Rl) : Nat := 4 * r.cond.length + (r.sets.length + mkLL r.terms)
theorem mkRl_le (r : Rl) : mkRl r ≤ 4 * szRl r := by have := mkLL_le r.terms; unfold mkRl szRl; omega
def mkRls (L : List Rl) : Nat := sumTo (fun i => mkRl (el L i)) L.length
theorem mkRls_le (L : List Rl) : mkRls L ≤ 4 * szRls L := by
  have := sum_le (f := fun i => mkRl (el L i)) (g := fun i => 4 * szRl (el L i)) (n := L.length) fun k _ => mkRl_le _
  rw [sum_four] at this
  unfold mkRls szRls; omega

def mkSy (s : Sy) : Nat := 3 * s.vars.length + mkRls s.rules
end Go.Proofs.YtnhjcokmajejcaaDoor
