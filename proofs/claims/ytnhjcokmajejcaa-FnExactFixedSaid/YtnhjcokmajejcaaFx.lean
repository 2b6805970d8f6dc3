/- Fixed (plain). -/
import Derived.Test.YtnhjcokmajejcaaMkX
namespace Go.Proofs.Ytnhjcokmajejcaa
open Go.RowKit
set_option maxRecDepth 100000

/-- The edge that an edge became, by what the nodes became. -/
def atE (l : List Int) (e : Int) : Int := if e % 2 = 1 then notE (ix l (e / 2).toNat) else ix l (e / 2).toNat
/-- What the first k nodes became that are no gates. -/
def fx0 (inp val : Int) : Nat → List Int
  | 0 => []
  | k + 1 => fx0 inp val k ++ [if (k : Int) = 1 + inp then val else 2 * k]
theorem fx0_len {inp val : Int} : ∀ {k : Nat}, (fx0 inp val k).length = k
  | 0 => rfl
  | k + 1 => by unfold fx0; rw [List.length_append, fx0_len]; rfl
theorem fx0_at {inp val : Int} : ∀ {k j : Nat}, j < k → ix (fx0 inp val k) j = if (j : Int) = 1 + inp then val else 2 * j
  | 0, j, h => by omega
  | k + 1, j, h => by
    unfold fx0
    by_cases q : j < k
    · unfold ix; rw [List.getElem?_append_left (by rw [fx0_len]; exact q)]; exact fx0_at q
    · obtain rfl : j = k := by omega
      unfold ix
      rw [List.getElem?_append_right (by rw [fx0_len]; exact Nat.le_refl _), fx0_len]
      simp
def fxTo (s : Ci) (inp val : Int) : Nat → Ci × List Int
  | 0 => (⟨s.ins, []⟩, fx0 inp val (1 + s.ins).toNat)
  | k + 1 => ((andB (fxTo s inp val k).1 (atE (fxTo s inp val k).2 (el s.gates k).a) (atE (fxTo s inp val k).2 (el s.gates k).b)).1, (fxTo s inp val k).2 ++ [(andB (fxTo s inp val k).1 (atE (fxTo s inp val k).2 (el s.gates k).a) (atE (fxTo s inp val k).2 (el s.gates k).b)).2])
noncomputable def fxOk (s : Ci) (edge inp val : Int) : Bool := ckB s && isE s edge && decide (0 ≤ inp ∧ inp < s.ins) && decide (val = 0 ∨ val = 1)
noncomputable def fxB (s : Ci) (edge inp val : Int) : Ci × Int := if fxOk s edge inp val then ((fxTo s inp val s.gates.length).1, atE (fxTo s inp val s.gates.length).2 edge) else (⟨0, []⟩, -1)

/-- An edge of a circuit. -/
def edIn (c : Ci) (e : Int) : Prop := 0 ≤ e ∧ e < 2 * (1 + c.ins + c.gates.length)
theorem andR_room {c : Ci} {a b : Int} (hi : 0 ≤ c.ins) (h : c.gates.length < 600) (hb : edIn c b) : edIn (andR c a b).1 (andR c a b).2 ∧ c.gates.length ≤ (andR c a b).1.gates.length ∧ (andR c a b).1.gates.length ≤ c.gates.length + 1 := by
  unfold edIn at *
  unfold andR
  split
  · dsimp only; omega
  · split
    · dsimp only; omega
    · split
      · rename_i i e
        have := findTo_lt e
        dsimp only; omega
      · rw [if_neg (by omega)]
        dsimp only
        rw [List.length_append]
        simp only [List.length_cons, List.length_nil]
        omega
theorem andB_room {c : Ci} {a b : Int} (hi : 0 ≤ c.ins) (h : c.gates.length < 600) (ha : edIn c a) (hb : edIn c b) : edIn (andB c a b).1 (andB c a b).2 ∧ c.gates.length ≤ (andB c a b).1.gates.length ∧ (andB c a b).1.gates.length ≤ c.gates.length + 1 := by
  unfold andB
  split
  · exact andR_room hi h hb
  · exact andR_room hi h ha
/-- What holds of the circuit and the nodes behind k gates. -/
structure FxI (s : Ci) (k : Nat) (r : Ci × List Int) : Prop where
  gd : Gd r.1
  ins : r.1.ins = s.ins
  len : r.1.gates.length ≤ k
  nodes : r.2.length = (1 + s.ins).toNat + k
  ed : ∀ j, j < r.2.length → edIn r.1 (ix r.2 j)
theorem FxI.at {s : Ci} {k : Nat} {r : Ci × List Int} (h : FxI s k r) {e : Int} (_e0 : 0 ≤ e) (e1 : e < 2 * (1 + s.ins + k)) : edIn r.1 (atE r.2 e) := by
  have hn := h.nodes
  have h0 := h.gd.lo
  have hi := h.ins
  have := h.ed (e / 2).toNat (by omega)
  unfold atE
  split
  · have := notE_in this.1 this.2
    exact this
  · exact this
theorem edIn.lt {s : Ci} {k : Nat} {r : Ci × List Int} (h : FxI s k r) {e : Int} (he : edIn r.1 e) : 0 ≤ e ∧ e < 2000 := by
  have := h.gd.few
  have := h.gd.hi
  unfold edIn at he
  omega
theorem fx_inv {s : Ci} {inp val : Int} (h : s.Ok) (i0 : 0 ≤ inp) (i1 : inp < s.ins) (hv : val = 0 ∨ val = 1) : ∀ {k : Nat}, k ≤ s.gates.length → FxI s k (fxTo s inp val k)
  | 0, _ => ⟨⟨h.lo, h.hi, by show (0 : Nat) ≤ 600; omega, fun k hk => absurd hk (by show ¬ k < 0; omega)⟩, rfl, Nat.le_refl _, by show (fx0 inp val _).length = _; rw [fx0_len]; rfl, fun j hj => by
      change j < (fx0 inp val _).length at hj
      rw [fx0_len] at hj
      show edIn ⟨s.ins, []⟩ (ix (fx0 inp val _) j)
      rw [fx0_at hj]
      have := h.lo
      unfold edIn
      dsimp only
      simp only [List.length_nil]
      split <;> omega⟩
  | k + 1, hk => by
    have I := fx_inv h i0 i1 hv (k := k) (by omega)
    have g := h.gate k (by omega)
    obtain ⟨a0, a1, b0, b1⟩ := g
    have hf := h.few
    have hl := I.len
    have A := I.at a0 (by omega)
    have B := I.at b0 (by omega)
    have A2 := edIn.lt I A
    have B2 := edIn.lt I B
    have R := andB_room I.gd.lo (by omega) A B
    have G := andB_gd I.gd A2.1 A2.2 B2.1 B2.2
    have n := I.nodes
    unfold fxTo
    refine ⟨G.1, G.2.1.trans I.ins, by dsimp only; omega, by dsimp only; rw [List.length_append, n]; simp; omega, fun j hj => ?_⟩
    dsimp only at hj ⊢
    rw [List.length_append] at hj
    simp only [List.length_cons, List.length_nil] at hj
    by_cases q : j < (fxTo s inp val k).2.length
    · have e := I.ed j q
      have : ix ((fxTo s inp val k).2 ++ [(andB (fxTo s inp val k).1 (atE (fxTo s inp val k).2 (el s.gates k).a) (atE (fxTo s inp val k).2 (el s.gates k).b)).2]) j = ix (fxTo s inp val k).2 j := by unfold ix; rw [List.getElem?_append_left q]
      rw [this]
      have R1 := R.2.1
      have G1 := G.2.1
      unfold edIn at e ⊢
      rw [G1]
      omega
    · obtain rfl : j = (fxTo s inp val k).2.length := by omega
      have : ix ((fxTo s inp val k).2 ++ [(andB (fxTo s inp val k).1 (atE (fxTo s inp val k).2 (el s.gates k).a) (atE (fxTo s inp val k).2 (el s.gates k).b)).2]) (fxTo s inp val k).2.length = (andB (fxTo s inp val k).1 (atE (fxTo s inp val k).2 (el s.gates k).a) (atE (fxTo s inp val k).2 (el s.gates k).b)).2 := by unfold ix; simp
      rw [this]
      exact R.1
end Go.Proofs.Ytnhjcokmajejcaa
