/- The variables that an expression is made of: words of bits, and what is needed: plain lists. -/
import Derived.Test.YtpaagplopefklaaValidP
namespace Go.Proofs.Ytpaagplopefklaa
open Go.RowKit

def wx (l : List Nat) (k : Nat) : Nat := l[k]?.getD 0
def wOf (t : Tm) (ws : List Nat) : Nat := if t.op = 0 then 0 else if t.op = 1 then 2 ^ t.n.toNat else wx ws t.a.toNat ||| wx ws t.b.toNat
def wsTo (l : List Tm) : Nat → List Nat
  | 0 => []
  | k + 1 => wsTo l k ++ [wOf (tx l k) (wsTo l k)]
theorem ws_len (l : List Tm) : ∀ k, (wsTo l k).length = k
  | 0 => rfl
  | k + 1 => by simp [wsTo, ws_len l k]
theorem ws_keep (l : List Tm) {j : Nat} : ∀ {n : Nat}, j < n → wx (wsTo l n) j = wOf (tx l j) (wsTo l j)
  | n + 1, h => by
    show (wsTo l n ++ [wOf (tx l n) (wsTo l n)])[j]?.getD 0 = _
    by_cases e : j < n
    · rw [List.getElem?_append_left (by rw [ws_len]; exact e)]
      exact ws_keep l e
    · obtain rfl : j = n := by omega
      rw [List.getElem?_append_right (by rw [ws_len]; omega), ws_len]; simp
theorem ws_same (l : List Tm) {j m n : Nat} (h : j < m) (h' : j < n) : wx (wsTo l m) j = wx (wsTo l n) j := by rw [ws_keep l h, ws_keep l h']
/-- Words of an expression's terms are small. -/
theorem wOf_small {t : Tm} {ks : List Int} {vars : Int} {ws : List Nat} (h : kind t ks vars ≠ 0) (hv : vars ≤ 5) (hs : ∀ j, wx ws j < 32) : wOf t ws < 32 := by
  unfold wOf
  rcases kind_inv h with ⟨e, _⟩ | ⟨e, h1, h2, _⟩ | ⟨e1, _⟩
  · rw [if_pos e]; omega
  · rw [if_neg (by omega), if_pos e]
    have : t.n.toNat ≤ 4 := by omega
    calc 2 ^ t.n.toNat ≤ 2 ^ 4 := Nat.pow_le_pow_right (by omega) this
      _ < 32 := by decide
  · rw [if_neg (by omega), if_neg (by omega)]
    exact Nat.or_lt_two_pow (n := 5) (hs _) (hs _)
theorem ws_small {l : List Tm} {vars : Int} (h : validB l vars = true) : ∀ k, k ≤ l.length → ∀ j, wx (wsTo l k) j < 32 := by
  intro k
  induction k with
  | zero => intro _ j; simp [wx, wsTo]
  | succ k ih =>
    intro hk j
    by_cases e : j < k
    · rw [ws_same l (show j < k + 1 by omega) e]; exact ih (by omega) j
    · by_cases e' : j = k
      · subst e'
        rw [ws_keep l (Nat.lt_succ_self j)]
        obtain ⟨ks, _, hne⟩ := valid_kind h (k := j) (by omega)
        exact wOf_small hne (valid_small h).2.2.2 (ih (by omega))
      · unfold wx; rw [List.getElem?_eq_none (by rw [ws_len]; omega)]; simp

/-- Whether a variable is one of those that an expression is made of. -/
def usesV (l : List Tm) (v : Nat) : Bool := (wx (wsTo l l.length) (l.length - 1)).testBit v
def usedTo (l : List Tm) (j : Nat) : List Int := ((List.range j).filter (usesV l)).map (fun v : Nat => (v : Int))
def usedL (l : List Tm) (vars : Int) : List Int := if validB l vars then usedTo l vars.toNat else []
theorem usedTo_succ (l : List Tm) (j : Nat) : usedTo l (j + 1) = usedTo l j ++ if usesV l j then [(j : Int)] else [] := by
  unfold usedTo
  rw [List.range_succ, List.filter_append, List.map_append]
  cases h : usesV l j <;> simp [h]
theorem used_len (l : List Tm) (vars : Int) : (usedL l vars).length ≤ 40 := by
  unfold usedL
  cases g : validB l vars
  · simp
  · have := valid_small g
    rw [if_pos rfl]
    unfold usedTo
    rw [List.length_map]
    have h := List.length_filter_le (usesV l) (List.range vars.toNat)
    rw [List.length_range] at h
    omega

/-! What is needed, from the last term down. -/
def bx (l : List Bool) (k : Nat) : Bool := l[k]?.getD false
theorem bx_set {l : List Bool} {i j : Nat} (hi : i < l.length) : bx (l.set i true) j = (bx l j || (i == j)) := by
  unfold bx
  by_cases e : i = j
  · subst e; rw [List.getElem?_set_self hi]; simp
  · rw [List.getElem?_set_ne e]; simp [e]
def need0 (n : Nat) : List Bool := (List.range n).map fun i => i + 1 == n
theorem need0_at {n j : Nat} (h : j < n) : bx (need0 n) j = (j + 1 == n) := by unfold bx need0; rw [List.getElem?_map, List.getElem?_range h]; rfl
def needStep (l : List Tm) (nd : List Bool) (i : Nat) : List Bool := if bx nd i && decide (2 ≤ (tx l i).op) then (nd.set (tx l i).a.toNat true).set (tx l i).b.toNat true else nd
def needTo (l : List Tm) : Nat → List Bool
  | 0 => need0 l.length
  | m + 1 => needStep l (needTo l m) (l.length - (m + 1))
theorem need_len (l : List Tm) : ∀ m, (needTo l m).length = l.length
  | 0 => by simp [needTo, need0]
  | m + 1 => by
    unfold needTo needStep
    split <;> simp [need_len l m]

/-- What comes of the last word's bits: variables that are needed already, and bits of words that are. -/
def Comes (l : List Tm) (nd : List Bool) (i v : Nat) : Prop :=
  (∃ j, i ≤ j ∧ j < l.length ∧ bx nd j = true ∧ (tx l j).op = 1 ∧ (tx l j).n = v) ∨ (∃ j, j < i ∧ bx nd j = true ∧ (wx (wsTo l l.length) j).testBit v = true)

theorem comes_step {l : List Tm} {vars : Int} (h : validB l vars = true) {nd : List Bool} (hn : nd.length = l.length) {i v : Nat} (hi : i < l.length) : Comes l nd (i + 1) v ↔ Comes l (needStep l nd i) i v := by
  obtain ⟨ks, hks, hne⟩ := valid_kind h hi
  have hw := ws_keep l hi
  unfold wOf at hw
  unfold needStep
  rcases kind_inv hne with ⟨e, _⟩ | ⟨e, h1, h2, _⟩ | ⟨e1, _, ⟨a0, a1, _⟩, ⟨b0, b1, _⟩, _⟩
  · rw [if_pos e] at hw
    rw [if_neg (by simp; omega)]
    constructor
    · rintro (⟨j, x1, x2, x3⟩ | ⟨j, x1, x2, x3⟩)
      · exact .inl ⟨j, by omega, x2, x3⟩
      · by_cases ej : j = i
        · subst ej; rw [hw] at x3; simp at x3
        · exact .inr ⟨j, by omega, x2, x3⟩
    · rintro (⟨j, x1, x2, x3, x4, x5⟩ | ⟨j, x1, x2, x3⟩)
      · by_cases ej : j = i
        · subst ej; omega
        · exact .inl ⟨j, by omega, x2, x3, x4, x5⟩
      · exact .inr ⟨j, by omega, x2, x3⟩
  · rw [if_neg (by omega), if_pos e] at hw
    rw [if_neg (by simp; omega)]
    constructor
    · rintro (⟨j, x1, x2, x3⟩ | ⟨j, x1, x2, x3⟩)
      · exact .inl ⟨j, by omega, x2, x3⟩
      · by_cases ej : j = i
        · subst ej
          rw [hw, Nat.testBit_two_pow] at x3
          have : (tx l j).n.toNat = v := by simpa using x3
          exact .inl ⟨j, by omega, hi, x2, e, by omega⟩
        · exact .inr ⟨j, by omega, x2, x3⟩
    · rintro (⟨j, x1, x2, x3, x4, x5⟩ | ⟨j, x1, x2, x3⟩)
      · by_cases ej : j = i
        · subst ej
          exact .inr ⟨j, by omega, x3, by rw [hw, Nat.testBit_two_pow]; simp; omega⟩
        · exact .inl ⟨j, by omega, x2, x3, x4, x5⟩
      · exact .inr ⟨j, by omega, x2, x3⟩
  · rw [if_neg (by omega), if_neg (by omega), ws_same l (n := l.length) (show (tx l i).a.toNat < i by omega) (by omega), ws_same l (n := l.length) (show (tx l i).b.toNat < i by omega) (by omega)] at hw
    have ha : (tx l i).a.toNat < i := by omega
    have hb : (tx l i).b.toNat < i := by omega
    generalize (tx l i).a.toNat = p at *
    generalize (tx l i).b.toNat = q at *
    cases hb' : bx nd i
    · rw [if_neg (by simp)]
      constructor
      · rintro (⟨j, x1, x2, x3⟩ | ⟨j, x1, x2, x3⟩)
        · exact .inl ⟨j, by omega, x2, x3⟩
        · by_cases ej : j = i
          · subst ej; rw [hb'] at x2; cases x2
          · exact .inr ⟨j, by omega, x2, x3⟩
      · rintro (⟨j, x1, x2, x3, x4, x5⟩ | ⟨j, x1, x2, x3⟩)
        · by_cases ej : j = i
          · subst ej; omega
          · exact .inl ⟨j, by omega, x2, x3, x4, x5⟩
        · exact .inr ⟨j, by omega, x2, x3⟩
    · rw [if_pos (by simp; omega)]
      have hs : ∀ j, bx ((nd.set p true).set q true) j = (bx nd j || (p == j) || (q == j)) := fun j => by rw [bx_set (by simp; omega), bx_set (by omega)]
      constructor
      · rintro (⟨j, x1, x2, x3⟩ | ⟨j, x1, x2, x3⟩)
        · exact .inl ⟨j, by omega, x2, by rw [hs, x3.1]; simp, x3.2⟩
        · by_cases ej : j = i
          · subst ej
            rw [hw, Nat.testBit_or, Bool.or_eq_true] at x3
            rcases x3 with x3 | x3
            · exact .inr ⟨p, ha, by rw [hs]; simp, x3⟩
            · exact .inr ⟨q, hb, by rw [hs]; simp, x3⟩
          · exact .inr ⟨j, by omega, by rw [hs, x2]; simp, x3⟩
      · rintro (⟨j, x1, x2, x3, x4, x5⟩ | ⟨j, x1, x2, x3⟩)
        · by_cases ej : j = i
          · subst ej; omega
          · have : bx nd j = true := by
              rw [hs] at x3
              have g1 : (p == j) = false := by simp; omega
              have g2 : (q == j) = false := by simp; omega
              simpa [g1, g2] using x3
            exact .inl ⟨j, by omega, x2, this, x4, x5⟩
        · rw [hs] at x2
          simp only [Bool.or_eq_true, beq_iff_eq] at x2
          rcases x2 with (x2 | rfl) | rfl
          · exact .inr ⟨j, by omega, x2, x3⟩
          · exact .inr ⟨i, by omega, hb', by rw [hw, Nat.testBit_or, x3]; simp⟩
          · exact .inr ⟨i, by omega, hb', by rw [hw, Nat.testBit_or, x3]; simp⟩

theorem comes_all {l : List Tm} {vars : Int} (h : validB l vars = true) {v : Nat} : ∀ m, m ≤ l.length → (usesV l v = true ↔ Comes l (needTo l m) (l.length - m) v)
  | 0, _ => by
    have hl := (valid_small h).1
    unfold usesV Comes
    constructor
    · intro x
      exact .inr ⟨l.length - 1, by omega, by show bx (need0 l.length) _ = true; rw [need0_at (by omega)]; simp; omega, x⟩
    · rintro (⟨j, x1, x2, _⟩ | ⟨j, x1, x2, x3⟩)
      · omega
      · have x2 : bx (need0 l.length) j = true := x2
        rw [need0_at (by omega)] at x2
        have : j + 1 = l.length := by simpa using x2
        rw [show l.length - 1 = j by omega]; exact x3
  | m + 1, hm => by
    rw [comes_all h m (by omega), show l.length - m = (l.length - (m + 1)) + 1 by omega]
    exact comes_step h (need_len l m) (by omega)
/-- A variable is used just if a needed term is it. -/
theorem uses_iff {l : List Tm} {vars : Int} (h : validB l vars = true) {v : Nat} : usesV l v = true ↔ ∃ j, j < l.length ∧ bx (needTo l l.length) j = true ∧ (tx l j).op = 1 ∧ (tx l j).n = v := by
  rw [comes_all h l.length (Nat.le_refl _)]
  unfold Comes
  constructor
  · rintro (⟨j, _, x⟩ | ⟨j, x1, _⟩)
    · exact ⟨j, x⟩
    · omega
  · rintro ⟨j, x⟩
    exact .inl ⟨j, by omega, x⟩
end Go.Proofs.Ytpaagplopefklaa
