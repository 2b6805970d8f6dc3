/- Diagrams: what is known when a maker has done an operation (plain), and what is decided at once, in the program. -/
import Derived.Test.YtnhjcokmajejcaaDgK
namespace Go.Proofs.Ytnhjcokmajejcaa
open Go.RowKit
set_option maxRecDepth 100000

/-- An operation of two places is done: the place x, the diagram d', and whether it is full now. -/
structure Ran (d : Dg) (op a b : Int) (full : Bool) (x : Int) (d' : Dg) (full' : Bool) : Prop where
  ext : Ext d d'
  isP : isP d' x = true
  old : full = true → d' = d ∧ full' = true
  new : full' = false → full = false ∧ runF op 13 d a b = (d', x)
  no : full' = true → full = true ∨ (runF op 13 d a b).2 < 0
theorem rk_13 {d : Dg} {op a b : Int} (ok : d.Ok) (g : fitA d op a b) : d.vars - rk d op a b < (13 : Nat) := by
  have := rk_le ok g
  have := ok.hi
  omega
theorem ran_val {d : Dg} {op a b x : Int} (ok : d.Ok) (g : fitA d op a b) (full : Bool) (e : stp d op a b = .val x) : Ran d op a b full x d full :=
  ⟨Ext.refl d, (stp_val ok g e).1, fun h => ⟨rfl, h⟩, fun h => ⟨h, runF_val e⟩, fun h => .inl h⟩
theorem ran_known {d : Dg} {op a b x : Int} (ok : d.Ok) (g : fitA d op a b) {full : Bool} (m : memo d full op a b x) : Ran d op a b full x d full :=
  ⟨Ext.refl d, m.1, fun h => ⟨rfl, h⟩, fun h => ⟨h, (m.2 h).2 13 (rk_13 ok g)⟩, fun h => .inl h⟩
theorem ran_memo {d d' : Dg} {op a b x : Int} {full full' : Bool} (ok : d.Ok) (g : fitA d op a b) (h : Ran d op a b full x d' full') : memo d' full' op a b x := by
  refine ⟨h.isP, fun hf => ⟨g.ext h.ext, fun k hk => ?_⟩⟩
  obtain ⟨_, hr⟩ := h.new hf
  have hx := (isP_iff.1 h.isP).1
  have R := run_ok ok g (rk_13 ok g) (by rw [hr]; exact hx)
  rw [hr] at R
  have g' := g.ext h.ext
  rw [run_fuel (m := 13) R.2.1 g' hk (rk_13 R.2.1 g')]
  have := run_ext (d' := d') ok g (rk_13 ok g) (by rw [hr]; exact hx) (by rw [hr]; exact Ext.refl d')
  rw [this, hr]
/-- The fork that an operation adds behind its two halves fits. -/
theorem ran_fit {d d1 d2 : Dg} {op a b v a0 b0 a1 b1 x0 x1 : Int} {full full1 full2 : Bool} (ok : d.Ok) (g : fitA d op a b) (e : stp d op a b = .two v a0 b0 a1 b1)
    (h0 : Ran d op a0 b0 full x0 d1 full1) (h1 : Ran d1 op a1 b1 full1 x1 d2 full2) (hf : full2 = false) : fitK d2 ⟨v, x0, x1⟩ (d2.forks.length + 1) := by
  obtain ⟨ev, v0, v1, g0, g1, r0, r1⟩ := stp_two ok g e
  obtain ⟨hf1, hr1⟩ := h1.new hf
  obtain ⟨hf0, hr0⟩ := h0.new hf1
  have q0 := isP_iff.1 h0.isP
  have q1 := isP_iff.1 h1.isP
  have R0 := run_ok ok g0 (rk_13 ok g0) (by rw [hr0]; exact q0.1)
  rw [hr0] at R0
  obtain ⟨E0, K0, P0, V0⟩ := R0
  have g1' := g1.ext E0
  have R1 := run_ok K0 g1' (rk_13 K0 g1') (by rw [hr1]; exact q1.1)
  rw [hr1] at R1
  obtain ⟨E1, K1, P1, V1⟩ := R1
  rw [rk_ext g1 E0] at V1
  have z0 := isP_iff.1 (E1.isP P0)
  dsimp only at *
  exact ⟨v0, by rw [E1.vars, E0.vars]; exact v1, z0.1, by dsimp only; omega, q1.1, by dsimp only; omega, by dsimp only; rw [E1.varP q0.2]; omega, by dsimp only; omega⟩
theorem ran_two {d d1 d2 d3 : Dg} {op a b v a0 b0 a1 b1 x0 x1 x3 : Int} {full full1 full2 full3 : Bool} (ok : d.Ok) (g : fitA d op a b) (e : stp d op a b = .two v a0 b0 a1 b1)
    (h0 : Ran d op a0 b0 full x0 d1 full1) (h1 : Ran d1 op a1 b1 full1 x1 d2 full2) (h3 : Added d2 ⟨v, x0, x1⟩ full2 x3 d3 full3) : Ran d op a b full x3 d3 full3 := by
  obtain ⟨ev, v0, v1, g0, g1, r0, r1⟩ := stp_two ok g e
  have rr := rk_le ok g
  have hi := ok.hi
  have f0 : runF op 12 d a0 b0 = runF op 13 d a0 b0 := run_fuel ok g0 (by omega) (rk_13 ok g0)
  have two : runF op 13 d a b = if (runF op 13 d a0 b0).2 < 0 then (d, -1) else adF (runF op 12 (runF op 13 d a0 b0).1 a1 b1).1 ⟨v, (runF op 13 d a0 b0).2, (runF op 12 (runF op 13 d a0 b0).1 a1 b1).2⟩ := by
    rw [runF_two (k := 12) e, f0]
  have mid : ∀ (K : d1.Ok) (E : Ext d d1), runF op 12 d1 a1 b1 = runF op 13 d1 a1 b1 := fun K E => by
    have g1' := g1.ext E
    exact run_fuel K g1' (by rw [rk_ext g1 E, E.vars]; omega) (rk_13 K g1')
  refine ⟨(h0.ext.trans h1.ext).trans h3.ext, h3.isP, fun hf => ?_, fun hf => ?_, fun hf => ?_⟩
  · obtain ⟨e1, q1⟩ := h0.old hf
    obtain ⟨e2, q2⟩ := h1.old q1
    obtain ⟨e3, q3⟩ := h3.old q2
    exact ⟨by rw [e3, e2, e1], q3⟩
  · obtain ⟨hf2, hr3⟩ := h3.new hf
    obtain ⟨hf1, hr1⟩ := h1.new hf2
    obtain ⟨hf0, hr0⟩ := h0.new hf1
    refine ⟨hf0, ?_⟩
    have q0 := isP_iff.1 h0.isP
    have R0 := run_ok ok g0 (rk_13 ok g0) (by rw [hr0]; exact q0.1)
    rw [hr0] at R0
    rw [two, hr0]
    dsimp only
    rw [if_neg (by omega), mid R0.2.1 R0.1, hr1]
    exact hr3
  · cases hfull : full with
    | true => exact .inl rfl
    | false =>
      right
      rw [two]
      by_cases q0 : (runF op 13 d a0 b0).2 < 0
      · rw [if_pos q0]; show (-1 : Int) < 0; decide
      · rw [if_neg q0]
        cases hf1 : full1 with
        | true =>
          rcases h0.no hf1 with q | q
          · rw [hfull] at q; cases q
          · exact absurd q q0
        | false =>
          obtain ⟨_, hr0⟩ := h0.new hf1
          have p0 := isP_iff.1 h0.isP
          have R0 := run_ok ok g0 (rk_13 ok g0) (by rw [hr0]; exact p0.1)
          rw [hr0] at R0 ⊢
          dsimp only
          rw [mid R0.2.1 R0.1]
          cases hf2 : full2 with
          | true =>
            rcases h1.no hf2 with q | q
            · rw [hf1] at q; cases q
            · unfold adF
              rw [if_pos (.inr q)]
              show (-1 : Int) < 0; decide
          | false =>
            obtain ⟨_, hr1⟩ := h1.new hf2
            rw [hr1]
            rcases h3.no hf with q | q
            · rw [hf2] at q; cases q
            · exact q

end Go.Proofs.Ytnhjcokmajejcaa
