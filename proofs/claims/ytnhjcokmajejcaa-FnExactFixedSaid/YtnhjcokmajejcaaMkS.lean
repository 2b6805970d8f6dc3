/- Circuits that are made: in the model. -/
import Derived.Test.YtnhjcokmajejcaaMkI
namespace Go.Proofs.Ytnhjcokmajejcaa
open Go.RowKit
set_option maxRecDepth 100000

/-- The call gives a circuit of its own and an edge; of what was there only the blocks fp have changed. -/
def GivesCE (base : Nat) (fp : List Nat) (w : World) (r : Ci × Int) (e : Ending) (w' : World) : Prop :=
  ∃ A c, e = .returned (.tuple #[.agg #[.int .i64 r.1.ins, .slice A r.1.gates.length c], .int .i64 r.2]) ∧ w'.ownsRow base 90 2 (.slice A r.1.gates.length c) r.1.gates.length (fl r.1.gates) ∧ Only fp w w' ∧ ∀ x ∈ bl (.slice A r.1.gates.length c), x ∈ fp ∨ w.heap.size ≤ x
theorem only_set {fp : List Nat} {w w' : World} (h : Only fp w w') {p : Addr} (u : Value) (hp : w.heap.size ≤ p.block) : Only fp w (w'.setCell p u) :=
  ⟨h.os, h.tape, h.output, by rw [World.size_setCell]; exact h.size, fun k hk hn => (setCell_heap _ _ _ (by omega)).trans (h.block k hk hn)⟩

theorem l7Not_any (e : Int) (w : World) (h0 : -1 ≤ e) (h1 : e < 2000) : Calls Try.prog 51 #[.int .i64 e] w fun r w' => r = .returned (.int .i64 (notE e)) ∧ w = w' := by
  unfold notE
  by_cases h : e < 0
  · rw [if_pos h]
    go_enter Try.func51, Try.ntmps51
    go_wp2
    go_ret
    exact ⟨rfl, rfl⟩
  · rw [if_neg h]
    have er : e.tmod 2 = e % 2 := Int.tmod_eq_emod_of_nonneg (by omega)
    have eq : e.tdiv 2 = e / 2 := Int.tdiv_eq_ediv_of_nonneg (by omega)
    have w1 : IntKind.i64.wrap (e / 2) = e / 2 := IntWalk.i64_in _ (by omega)
    have w2 : IntKind.i64.wrap (e / 2 * 2) = e / 2 * 2 := IntWalk.i64_in _ (by omega)
    have w3 : IntKind.i64.wrap (e / 2 * 2 + 1) = e / 2 * 2 + 1 := IntWalk.i64_in _ (by omega)
    have w4 : IntKind.i64.wrap (e / 2 * 2 + 1 - e % 2) = e / 2 * 2 + 1 - e % 2 := IntWalk.i64_in _ (by omega)
    go_enter Try.func51, Try.ntmps51
    go_wp2
    go_ret
    exact ⟨rfl, rfl⟩

/-- The node of the gate, or -1. -/
def findN (c : Ci) (a b : Int) : Int := match findB c.gates a b with | some i => 1 + c.ins + i | none => -1
set_option maxHeartbeats 1000000 in
theorem l7Find_any (s : Ci) (A : Option Addr) (n c : Nat) (a b : Int) (w : World) (h : Mem.rd w w.heap.size [.slice A n c] s.gates) (h0 : 0 ≤ s.ins) (h1 : s.ins ≤ 12) (hn : n ≤ 700) :
    Calls Try.prog 94 #[.agg #[.int .i64 s.ins, .slice A n c], .int .i64 a, .int .i64 b] w (GivesInt w (findN s a b)) := by
  have hl := rd_len h
  have HN : Hid ((∀ j, j < n → ¬ ((el s.gates j).a = a ∧ (el s.gates j).b = b)) → findN s a b = -1) := Lib.hid (fun q => by unfold findN findB; rw [hl, findTo_none q])
  have HH : Hid (∀ k, k < n → (∀ j, j < k → ¬ ((el s.gates j).a = a ∧ (el s.gates j).b = b)) → (el s.gates k).a = a ∧ (el s.gates k).b = b → findN s a b = 1 + s.ins + k) := Lib.hid (fun k hk q e => by
    unfold findN findB; rw [hl, findTo_hit q e hk])
  generalize findN s a b = F at *
  obtain ⟨m, gs⟩ := s
  dsimp only at *
  have BX := Lib.hid (ci_box (w := w) (v1 := .int .i64 m) (v2 := .slice A n c) (t := 49))
  clear hl
  go_enter Try.func94, Try.ntmps94
  go_wp2
  go_loopg [7] n (fun r i wr => ∃ k : Nat, k + r = n ∧ i = .int .i64 k ∧ Hid (∀ j, j < k → ¬ ((el gs j).a = a ∧ (el gs j).b = b)) ∧ Below (w.alloc (.cells #[.int .i64 m, .slice A n c] 49)).heap.size (w.alloc (.cells #[.int .i64 m, .slice A n c] 49)) wr)
  case atStart => exact ⟨0, by omega, rfl, Lib.hid (fun j hj => absurd hj (by omega)), Below.refl _ _⟩
  case round =>
    obtain ⟨k, hk, rfl, ha, hb⟩ := hrel
    obtain ⟨B, x0, x1⟩ := BX.out _ hb
    by_cases hlt : k < n
    · obtain ⟨ad, rfl, hbl, d0, d1⟩ := ga_at (Mem.rd_below h B) hlt
      have kn : (k : Int) < n := by omega
      have HF := Lib.hid (HH.out k hlt ha.out)
      have HS1 : Hid (¬ ((el gs k).a = a ∧ (el gs k).b = b) → ∀ j, j < k + 1 → ¬ ((el gs j).a = a ∧ (el gs j).b = b)) := Lib.hid (fun hz j hj => by
        by_cases e : j = k
        · subst e; exact hz
        · exact ha.out j (by omega))
      generalize el gs k = G at *
      obtain ⟨x, y⟩ := G
      dsimp only at *
      by_cases e1 : x = a
      · by_cases e2 : y = b
        · have hf := Lib.hid (HF.out ⟨e1, e2⟩)
          have g1 : (x == a) = true := by simp [e1]
          have g2 : (y == b) = true := by simp [e2]
          clear e1 e2 HF HS1
          go_wp2
          go_ret
          exact ⟨(congrArg (fun b => Ending.returned (.int .i64 b)) hf.out).symm, B⟩
        · have hs := Lib.hid (HS1.out (fun q => e2 q.2))
          have g1 : (x == a) = true := by simp [e1]
          have g2 : (y == b) = false := by simp [e2]
          clear e1 e2 HF HS1
          go_wp2
          go_roundg (n - (k + 1))
          case measure => omega
          case rel => exact ⟨k + 1, by omega, by go_num, hs, hb⟩
      · have hs := Lib.hid (HS1.out (fun q => e1 q.1))
        have g1 : (x == a) = false := by simp [e1]
        clear e1 HF HS1
        go_wp2
        go_roundg (n - (k + 1))
        case measure => omega
        case rel => exact ⟨k + 1, by omega, by go_num, hs, hb⟩
    · obtain rfl : k = n := by omega
      have hf := Lib.hid (HN.out ha.out)
      go_wp2
      go_ret
      exact ⟨(congrArg (fun b => Ending.returned (.int .i64 b)) hf.out).symm, B⟩
theorem findN_some {c : Ci} {a b : Int} (_h0 : 0 ≤ c.ins) (h : 0 ≤ findN c a b) : ∃ i, findB c.gates a b = some i ∧ findN c a b = 1 + c.ins + i := by
  unfold findN at h ⊢
  cases q : findB c.gates a b with
  | some i => exact ⟨i, rfl, rfl⟩
  | none => rw [q] at h; simp at h
theorem findN_none {c : Ci} {a b : Int} (h0 : 0 ≤ c.ins) (h : findN c a b < 0) : findB c.gates a b = none := by
  unfold findN at h
  cases q : findB c.gates a b with
  | some i => rw [q] at h; dsimp only at h; omega
  | none => rfl
theorem findN_le {c : Ci} {a b : Int} (h0 : 0 ≤ c.ins) (h1 : c.ins ≤ 12) (hn : c.gates.length ≤ 600) : findN c a b ≤ 1000 := by
  unfold findN
  cases q : findB c.gates a b with
  | some i => have := findTo_lt q; dsimp only; omega
  | none => simp
end Go.Proofs.Ytnhjcokmajejcaa
