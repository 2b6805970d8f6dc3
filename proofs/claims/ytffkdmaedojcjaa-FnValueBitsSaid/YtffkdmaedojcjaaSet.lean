/- Sets of states, of the program and of the model. -/
import Derived.Test.YtffkdmaedojcjaaSysH
import Derived.Test.YtffkdmaedojcjaaPt
import Derived.Test.YtffkdmaedojcjaaSysC
import Derived.Deep.QuietTactic
import Derived.BigQuiet
namespace Go.Proofs.Ytffkdmaedojcjaa
open Go.RowKit

/-- How many states a system has; 0 if it is none. -/
def sizeOf (s : Sy) : Int := if sysB s then sizeB s else 0

end Go.Proofs.Ytffkdmaedojcjaa
namespace Go.Proofs.Ytffkdmaedojcjaa
open Go.RowKit

/-- How many values a variable has. -/
def spn (v : Vr) : Int := v.high - v.low + 1
/-- The number that the first k values have. -/
def numTo (l : List Vr) (st : List Int) : Nat → Int
  | 0 => 0
  | k + 1 => numTo l st k * ((el l k).high - (el l k).low + 1) + ix st k - (el l k).low
theorem num_bd {l : List Vr} {st : List Int} (hv : ∀ k, k < l.length → varB (el l k) = true) (h : ∀ k, k < l.length → (el l k).low ≤ ix st k ∧ ix st k ≤ (el l k).high) :
    ∀ {k : Nat}, k ≤ l.length → 0 ≤ numTo l st k ∧ numTo l st k + 1 ≤ prodTo l k := by
  intro k
  induction k with
  | zero => intro _; exact ⟨Int.le_refl _, by show (0 : Int) + 1 ≤ 1; omega⟩
  | succ k ih =>
    intro hk
    obtain ⟨a, b⟩ := ih (by omega)
    have v := varB_iff.1 (hv k (by omega))
    have c := h k (by omega)
    have e1 : numTo l st (k + 1) = numTo l st k * ((el l k).high - (el l k).low + 1) + ix st k - (el l k).low := rfl
    have e2 : prodTo l (k + 1) = prodTo l k * ((el l k).high - (el l k).low + 1) := rfl
    rw [e1, e2]
    generalize numTo l st k = x at *
    generalize prodTo l k = p at *
    generalize (el l k).high = hi at *
    generalize (el l k).low = lo at *
    have h1 := Int.mul_le_mul_of_nonneg_right (show x + 1 ≤ p from b) (show 0 ≤ hi - lo + 1 by omega)
    have h2 := Int.mul_nonneg a (show 0 ≤ hi - lo + 1 by omega)
    rw [Int.add_mul] at h1
    omega
theorem prod_mono {l : List Vr} (hv : ∀ k, k < l.length → varB (el l k) = true) {k : Nat} : ∀ {n : Nat}, k ≤ n → n ≤ l.length → prodTo l k ≤ prodTo l n := by
  intro n
  induction n with
  | zero =>
    intro h _
    have e : k = 0 := by omega
    rw [e]
    exact Int.le_refl _
  | succ n ih =>
    intro h hn
    by_cases e : k = n + 1
    · subst e; exact Int.le_refl _
    · have a := ih (by omega) (by omega)
      have v := varB_iff.1 (hv n (by omega))
      have e2 : prodTo l (n + 1) = prodTo l n * ((el l n).high - (el l n).low + 1) := rfl
      have p1 := (prod_bd (l := l) (k := n) (allTo_true.2 fun i hi => hv i (by omega))).1
      rw [e2]
      have hz : 1 ≤ (el l n).high - (el l n).low + 1 := by omega
      generalize (el l n).high - (el l n).low + 1 = z at hz ⊢
      have h1 := Int.mul_le_mul_of_nonneg_left hz (show 0 ≤ prodTo l n by omega)
      omega
theorem num_sys {s : Sy} {st : List Int} (ok : SysOk s) (h : hasB s.vars st = true) {k : Nat} (hk : k ≤ s.vars.length) : 0 ≤ numTo s.vars st k ∧ numTo s.vars st k < 400 := by
  obtain ⟨a, b⟩ := num_bd (st := st) ok.vars (has_at h) hk
  have c := prod_mono ok.vars hk (Nat.le_refl _)
  have d := ok.size
  unfold sizeB at d
  omega
/-- The number of a state. -/
def numL (s : Sy) (st : List Int) : Int := numTo s.vars st s.vars.length
def numB (s : Sy) (st : List Int) : Int := if inRangeB s st then numL s st else -1

/-- What is left of a number when the last m variables are taken away. -/
def remTo (l : List Vr) (n : Int) : Nat → Int
  | 0 => n
  | m + 1 => remTo l n m / ((el l (l.length - 1 - m)).high - (el l (l.length - 1 - m)).low + 1)
/-- A state with the last m variables laid by a number. -/
def layTo (l : List Vr) (n : Int) (base : List Int) : Nat → List Int
  | 0 => base
  | m + 1 => (layTo l n base m).set (l.length - 1 - m) ((el l (l.length - 1 - m)).low + remTo l n m % ((el l (l.length - 1 - m)).high - (el l (l.length - 1 - m)).low + 1))
theorem lay_len (l : List Vr) (n : Int) (base : List Int) : ∀ m, (layTo l n base m).length = base.length
  | 0 => rfl
  | m + 1 => by show ((layTo l n base m).set _ _).length = _; rw [List.length_set, lay_len]
/-- The state with a number. -/
def stL (l : List Vr) (n : Int) : List Int := layTo l n (List.replicate l.length 0) l.length
theorem stL_len (l : List Vr) (n : Int) : (stL l n).length = l.length := by unfold stL; rw [lay_len]; simp
theorem lay_ix (l : List Vr) (n : Int) (base : List Int) (hb : base.length = l.length) : ∀ m, m ≤ l.length → ∀ j, j < l.length →
    ix (layTo l n base m) j = if l.length - m ≤ j then (el l j).low + remTo l n (l.length - 1 - j) % ((el l j).high - (el l j).low + 1) else ix base j
  | 0, _, j, hj => by rw [if_neg (by omega)]; rfl
  | m + 1, hm, j, hj => by
    show ix ((layTo l n base m).set _ _) j = _
    rw [ix_set (by rw [lay_len]; omega), lay_ix l n base hb m (by omega) j hj]
    by_cases e : l.length - 1 - m = j
    · rw [if_pos e, if_pos (by omega)]
      subst e
      rw [show l.length - 1 - (l.length - 1 - m) = m by omega]
    · rw [if_neg e]
      by_cases q : l.length - m ≤ j
      · rw [if_pos q, if_pos (by omega)]
      · rw [if_neg q, if_neg (by omega)]
theorem lay_all (l : List Vr) (n : Int) (base : List Int) (hb : base.length = l.length) : layTo l n base l.length = stL l n := by
  apply List.ext_getElem?
  intro j
  by_cases hj : j < l.length
  · have h1 : j < (layTo l n base l.length).length := by rw [lay_len]; omega
    have h2 : j < (stL l n).length := by rw [stL_len]; omega
    rw [List.getElem?_eq_getElem h1, List.getElem?_eq_getElem h2, ← ix_lt h1, ← ix_lt h2]
    unfold stL
    rw [lay_ix l n base hb _ (Nat.le_refl _) j hj, lay_ix l n _ (by simp) _ (Nat.le_refl _) j hj, if_pos (by omega), if_pos (by omega)]
  · rw [List.getElem?_eq_none (by rw [lay_len]; omega), List.getElem?_eq_none (by rw [stL_len]; omega)]
theorem stL_ix (l : List Vr) (n : Int) {j : Nat} (hj : j < l.length) : ix (stL l n) j = (el l j).low + remTo l n (l.length - 1 - j) % ((el l j).high - (el l j).low + 1) := by
  unfold stL
  rw [lay_ix l n _ (by simp) _ (Nat.le_refl _) j hj, if_pos (by omega)]
theorem rem_bd {l : List Vr} {n : Int} (hv : ∀ k, k < l.length → varB (el l k) = true) (h0 : 0 ≤ n) : ∀ {m : Nat}, m ≤ l.length → 0 ≤ remTo l n m ∧ remTo l n m ≤ n := by
  intro m
  induction m with
  | zero => intro _; exact ⟨h0, Int.le_refl _⟩
  | succ m ih =>
    intro hm
    obtain ⟨a, b⟩ := ih (by omega)
    have v := varB_iff.1 (hv (l.length - 1 - m) (by omega))
    show 0 ≤ remTo l n m / _ ∧ remTo l n m / _ ≤ n
    have h1 := Int.ediv_nonneg a (show 0 ≤ (el l (l.length - 1 - m)).high - (el l (l.length - 1 - m)).low + 1 by omega)
    have h2 := Int.ediv_le_self ((el l (l.length - 1 - m)).high - (el l (l.length - 1 - m)).low + 1) a
    omega
theorem stL_has {l : List Vr} (n : Int) (hv : ∀ k, k < l.length → varB (el l k) = true) : hasB l (stL l n) = true := by
  rw [hasB_all (stL_len _ _), allTo_true]
  intro k hk
  have v := varB_iff.1 (hv k hk)
  rw [stL_ix l n hk]
  have h1 := Int.emod_nonneg (remTo l n (l.length - 1 - k)) (show (el l k).high - (el l k).low + 1 ≠ 0 by omega)
  have h2 := Int.emod_lt_of_pos (remTo l n (l.length - 1 - k)) (show 0 < (el l k).high - (el l k).low + 1 by omega)
  simp [inB]; omega
/-- The state with a number of a system; nothing if there is none. -/
def stateAtB (s : Sy) (n : Int) : List Int := if sysB s && (decide (0 ≤ n) && decide (n < sizeB s)) then stL s.vars n else []
theorem stateAtB_len (s : Sy) (n : Int) : (stateAtB s n).length ≤ 1000000 := by
  unfold stateAtB
  cases hz : sysB s
  · simp
  · have ok := sysOk_of hz
    have := ok.hi
    split
    · rw [stL_len]; omega
    · simp
/-- Whether numbers are a set of states. -/
def setB (s : Sy) (l : List Int) : Bool := sysB s && setsB l (sizeB s)
end Go.Proofs.Ytffkdmaedojcjaa
namespace Go.Proofs.Ytffkdmaedojcjaa
open Go.RowKit

theorem sizeB_bd {s : Sy} (h : sysB s = true) : 1 ≤ sizeB s ∧ sizeB s ≤ 400 := by
  have ok := sysOk_of h
  exact ⟨(prod_bd (l := s.vars) (k := s.vars.length) (allTo_true.2 fun i hi => ok.vars i hi)).1, ok.size⟩

end Go.Proofs.Ytffkdmaedojcjaa
