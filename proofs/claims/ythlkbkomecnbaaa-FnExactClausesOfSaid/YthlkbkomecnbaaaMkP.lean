/- Circuits that are made: gates that are found, and edges that are added (plain). -/
import Derived.Test.YthlkbkomecnbaaaCiP
import Derived.Test.YthlkbkomecnbaaaGen
import Derived.Maps.OwnSet
import Derived.DeepKeys4
namespace Go.Proofs.Ythlkbkomecnbaaa
open Go.RowKit
set_option maxRecDepth 100000

/-- The first of the first k gates that has these edges. -/
def findTo (gs : List Ga) (a b : Int) : Nat → Option Nat
  | 0 => none
  | k + 1 => match findTo gs a b k with
    | some i => some i
    | none => if (el gs k).a = a ∧ (el gs k).b = b then some k else none
def findB (gs : List Ga) (a b : Int) : Option Nat := findTo gs a b gs.length
theorem findTo_none {gs : List Ga} {a b : Int} : ∀ {k : Nat}, (∀ j, j < k → ¬ ((el gs j).a = a ∧ (el gs j).b = b)) → findTo gs a b k = none
  | 0, _ => rfl
  | k + 1, h => by
    unfold findTo
    rw [findTo_none fun j hj => h j (by omega)]
    dsimp only
    rw [if_neg (h k (by omega))]
theorem findTo_hit {gs : List Ga} {a b : Int} {k : Nat} (h : ∀ j, j < k → ¬ ((el gs j).a = a ∧ (el gs j).b = b)) (e : (el gs k).a = a ∧ (el gs k).b = b) : ∀ {m : Nat}, k < m → findTo gs a b m = some k
  | 0, hm => by omega
  | m + 1, hm => by
    unfold findTo
    by_cases q : k < m
    · rw [findTo_hit h e q]
    · obtain rfl : k = m := by omega
      rw [findTo_none h]
      dsimp only
      rw [if_pos e]
theorem findTo_lt {gs : List Ga} {a b : Int} : ∀ {m i : Nat}, findTo gs a b m = some i → i < m
  | 0, i, h => by cases h
  | m + 1, i, h => by
    unfold findTo at h
    cases q : findTo gs a b m with
    | some j =>
      rw [q] at h
      injection h with h
      have := findTo_lt q
      omega
    | none =>
      rw [q] at h
      dsimp only at h
      split at h
      · injection h with h; omega
      · cases h
theorem findTo_app {gs : List Ga} {x : Ga} {a b : Int} : ∀ {k : Nat}, k ≤ gs.length → findTo (gs ++ [x]) a b k = findTo gs a b k
  | 0, _ => rfl
  | k + 1, h => by
    unfold findTo
    rw [findTo_app (k := k) (by omega), el_left (by omega)]
theorem findB_app {gs : List Ga} {x : Ga} {a b : Int} : findB (gs ++ [x]) a b = match findB gs a b with | some i => some i | none => if x.a = a ∧ x.b = b then some gs.length else none := by
  show findTo (gs ++ [x]) a b (gs ++ [x]).length = _
  rw [List.length_append]
  show findTo (gs ++ [x]) a b (gs.length + 1) = _
  conv => lhs; unfold findTo
  rw [findTo_app (Nat.le_refl _), el_last]
  rfl

/-- The contrary of an edge; -1 of none. -/
def notE (e : Int) : Int := if e < 0 then -1 else e / 2 * 2 + 1 - e % 2
theorem notE_in {e : Int} (h : 0 ≤ e) {m : Int} (h1 : e < 2 * m) : 0 ≤ notE e ∧ notE e < 2 * m := by unfold notE; rw [if_neg (by omega)]; omega
/-- A gate with edges in order. -/
def andR (c : Ci) (a b : Int) : Ci × Int :=
  if a = 0 ∨ (a / 2 = b / 2 ∧ a ≠ b) then (c, 0)
  else if a = 1 ∨ a = b then (c, b)
  else match findB c.gates a b with
    | some i => (c, 2 * (1 + c.ins + i))
    | none => if 600 ≤ c.gates.length then (c, -1) else (⟨c.ins, c.gates ++ [⟨a, b⟩]⟩, 2 * (1 + c.ins + c.gates.length))
def andB (c : Ci) (a b : Int) : Ci × Int := if a ≤ b then andR c a b else andR c b a
def orB (c : Ci) (a b : Int) : Ci × Int := ((andB c (notE a) (notE b)).1, notE (andB c (notE a) (notE b)).2)
def pickB (c : Ci) (z y n : Int) : Ci × Int :=
  if y = n then (c, y)
  else if (andB c z y).2 < 0 then (c, -1)
  else if (andB (andB c z y).1 (notE z) n).2 < 0 then (c, -1)
  else orB (andB (andB c z y).1 (notE z) n).1 (andB c z y).2 (andB (andB c z y).1 (notE z) n).2
/-- Nothing and -1 where there was no room. -/
def toldB (r : Ci × Int) : Ci × Int := if r.2 < 0 then (⟨0, []⟩, -1) else r

/-- Circuits that are small. -/
structure Gd (c : Ci) : Prop where
  lo : 0 ≤ c.ins
  hi : c.ins ≤ 12
  few : c.gates.length ≤ 600
  gate : ∀ k, k < c.gates.length → 0 ≤ (el c.gates k).a ∧ (el c.gates k).a < 2000 ∧ 0 ≤ (el c.gates k).b ∧ (el c.gates k).b < 2000
theorem Gd.of_ok {c : Ci} (h : c.Ok) : Gd c := ⟨h.lo, h.hi, h.few, fun k hk => by
  have := h.gate k hk
  obtain ⟨a0, a1, b0, b1⟩ := this
  have := h.hi
  have := h.few
  omega⟩
theorem andR_gd {c : Ci} {a b : Int} (h : Gd c) (a0 : 0 ≤ a) (a1 : a < 2000) (b0 : 0 ≤ b) (b1 : b < 2000) : Gd (andR c a b).1 ∧ (andR c a b).1.ins = c.ins ∧ -1 ≤ (andR c a b).2 ∧ (andR c a b).2 < 2000 := by
  have h1 := h.lo
  have h2 := h.hi
  have h3 := h.few
  unfold andR
  split
  · exact ⟨h, rfl, by omega, by show (0 : Int) < 2000; omega⟩
  · split
    · exact ⟨h, rfl, by show -1 ≤ b; omega, b1⟩
    · split
      · rename_i i e
        have := findTo_lt e
        exact ⟨h, rfl, by dsimp only; omega, by dsimp only; omega⟩
      · split
        · exact ⟨h, rfl, by dsimp only; omega, by dsimp only; omega⟩
        · refine ⟨⟨h1, h2, by dsimp only; rw [List.length_append]; simp; omega, fun k hk => ?_⟩, rfl, by dsimp only; omega, by dsimp only; omega⟩
          dsimp only at hk ⊢
          rw [List.length_append] at hk
          simp only [List.length_cons, List.length_nil] at hk
          by_cases q : k < c.gates.length
          · rw [el_left q]; exact h.gate k q
          · obtain rfl : k = c.gates.length := by omega
            rw [el_last]; exact ⟨a0, a1, b0, b1⟩
theorem andB_gd {c : Ci} {a b : Int} (h : Gd c) (a0 : 0 ≤ a) (a1 : a < 2000) (b0 : 0 ≤ b) (b1 : b < 2000) : Gd (andB c a b).1 ∧ (andB c a b).1.ins = c.ins ∧ -1 ≤ (andB c a b).2 ∧ (andB c a b).2 < 2000 := by
  unfold andB
  split
  · exact andR_gd h a0 a1 b0 b1
  · exact andR_gd h b0 b1 a0 a1
/-! ### Keys of the map -/
theorem and_row : 92 < Try.prog.types.size := of_decide_eq_true (by kernel_rfl)
theorem and_wide : (match Try.prog.underlying 92 with | some (.array _ _) | some (.struct _) => true | _ => false) = true := by rw [Try.underlying92]
theorem and_law : Maps.Keyed Try.prog 92 := Maps.Keyed.of_law (deep_law_laid Try.laidOut (m := 2) (by omega) and_row (by kernel_rfl) and_wide)
theorem and_zero (w : World) : (zeroValue 3).run Try.prog w = .ok (.int .i64 0) w := by kernel_rfl
theorem and_key {a b : Int} (a0 : 0 ≤ a) (a1 : a < 1000000000) (b0 : 0 ≤ b) (b1 : b < 1000000000) : ∃ kl, keyOf Try.prog 92 (.agg #[.int .i64 a, .int .i64 b]) = some kl := by
  have ha := int_wf a0 a1
  have hb := int_wf b0 b1
  have hk : Try.prog.keyType 92 = true := by kernel_rfl
  have hc : Try.prog.cellsOf 92 = 2 := by kernel_rfl
  have hc1 : Try.prog.cellsOf 3 = 1 := by kernel_rfl
  obtain ⟨m, hm⟩ : ∃ m, Try.prog.types.size = m + 1 := ⟨Try.prog.types.size - 1, by have := and_row; omega⟩
  have hl : Try.prog.keyLits (Try.prog.types.size + 1) 92 [.int .i64 a, .int .i64 b] = some [.int .i64 a, .int .i64 b] := by
    rw [hm]
    simp [Program.keyLits, Try.underlying92, Try.underlying3, hc, hc1, ha, hb]
  have hf : (Value.agg #[.int .i64 a, .int .i64 b]).formed Try.prog 92 = true := by simp [Value.formed, Try.underlying92, hc]
  refine ⟨.string (keyBytes [.int .i64 a, .int .i64 b]), ?_⟩
  unfold keyOf
  rw [Try.underlying92]
  dsimp only
  rw [hk, hf]
  simp only [Bool.and_self, if_true]
  rw [show (Value.agg #[.int .i64 a, .int .i64 b]).cells.toList = [.int .i64 a, .int .i64 b] from rfl, hl]
  rfl
end Go.Proofs.Ythlkbkomecnbaaa
