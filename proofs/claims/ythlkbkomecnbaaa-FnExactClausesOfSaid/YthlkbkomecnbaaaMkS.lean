/- Circuits that are made: in the model. -/
import Derived.Test.YthlkbkomecnbaaaMkI
namespace Go.Proofs.Ythlkbkomecnbaaa
open Go.RowKit
set_option maxRecDepth 100000

/-- The call gives a circuit of its own and an edge; of what was there only the blocks fp have changed. -/
def GivesCE (base : Nat) (fp : List Nat) (w : World) (r : Ci × Int) (e : Ending) (w' : World) : Prop :=
  ∃ A c, e = .returned (.tuple #[.agg #[.int .i64 r.1.ins, .slice A r.1.gates.length c], .int .i64 r.2]) ∧ w'.ownsRow base 92 2 (.slice A r.1.gates.length c) r.1.gates.length (fl r.1.gates) ∧ Only fp w w' ∧ ∀ x ∈ bl (.slice A r.1.gates.length c), x ∈ fp ∨ w.heap.size ≤ x
theorem only_set {fp : List Nat} {w w' : World} (h : Only fp w w') {p : Addr} (u : Value) (hp : w.heap.size ≤ p.block) : Only fp w (w'.setCell p u) :=
  ⟨h.os, h.tape, h.output, by rw [World.size_setCell]; exact h.size, fun k hk hn => (setCell_heap _ _ _ (by omega)).trans (h.block k hk hn)⟩

theorem l7Not_any (e : Int) (w : World) (h0 : -1 ≤ e) (h1 : e < 2000) : Calls Try.prog 68 #[.int .i64 e] w fun r w' => r = .returned (.int .i64 (notE e)) ∧ w = w' := by
  unfold notE
  by_cases h : e < 0
  · rw [if_pos h]
    go_enter Try.func68, Try.ntmps68
    go_wp2
    go_ret
    exact ⟨rfl, rfl⟩
  · rw [if_neg h]
    have er : e.tmod 2 = e % 2 := Int.tmod_eq_emod_of_nonneg (by omega)
    have eq : e.tdiv 2 = e / 2 := Int.tdiv_eq_ediv_of_nonneg (by omega)
    have w1 : IntKind.i64.wrap (e / 2) = e / 2 := IntWalk.i64_in _ (by omega)
    have w2 : IntKind.i64.wrap (e / 2 * 2) = e / 2 * 2 := IntWalk.i64_in _ (by omega)
    have w3 : IntKind.i64.wrap (e / 2 * 2 + 1) = e / 2 * 2 + 1 := IntWalk.i64_in _ (by omega)
    have w4 : IntKind.i64.wrap (e / 2 * 2 + 1 - e % 2) = e / 2 * 2 + 1 - e % 2 := IntWalk.i64_in _ (by omega)
    go_enter Try.func68, Try.ntmps68
    go_wp2
    go_ret
    exact ⟨rfl, rfl⟩

/-- The node of the gate, or -1. -/
def findN (c : Ci) (a b : Int) : Int := match findB c.gates a b with | some i => 1 + c.ins + i | none => -1
theorem findN_some {c : Ci} {a b : Int} (_h0 : 0 ≤ c.ins) (h : 0 ≤ findN c a b) : ∃ i, findB c.gates a b = some i ∧ findN c a b = 1 + c.ins + i := by
  unfold findN at h ⊢
  cases q : findB c.gates a b with
  | some i => exact ⟨i, rfl, rfl⟩
  | none => rw [q] at h; simp at h
theorem findN_none {c : Ci} {a b : Int} (h0 : 0 ≤ c.ins) (h : findN c a b < 0) : findB c.gates a b = none := by
  unfold findN at h
  cases q : findB c.gates a b with
  | some i => rw [q] at h; dsimp only at h; omega
  | none => rfl
theorem findN_le {c : Ci} {a b : Int} (h0 : 0 ≤ c.ins) (h1 : c.ins ≤ 12) (hn : c.gates.length ≤ 600) : findN c a b ≤ 1000 := by
  unfold findN
  cases q : findB c.gates a b with
  | some i => have := findTo_lt q; dsimp only; omega
  | none => simp
end Go.Proofs.Ythlkbkomecnbaaa
