/- Circuits that are made: edges that are added, in the model. -/
import Derived.Test.YtnhjcokmajejcaaMkS
namespace Go.Proofs.Ytnhjcokmajejcaa
open Go.RowKit
set_option maxRecDepth 100000

theorem half_eq {x : Int} (h : 0 ≤ x) (h1 : x < 2000) : IntKind.i64.wrap (x.tdiv 2) = x / 2 := by
  rw [Int.tdiv_eq_ediv_of_nonneg h]; exact IntWalk.i64_in _ (by omega)
set_option maxHeartbeats 2000000 in
theorem l7And_quick (s : Ci) (A : Option Addr) (c : Nat) (a b lo hi : Int) (base : Nat) (w : World) (ho : w.ownsRow base 90 2 (.slice A s.gates.length c) s.gates.length (fl s.gates)) (_hb : base ≤ w.heap.size) (l0 : 0 ≤ lo) (h2 : hi < 2000)
    (hs : (a = lo ∧ b = hi ∧ lo ≤ hi) ∨ (a = hi ∧ b = lo ∧ lo < hi)) (e : Int) (he : andR s lo hi = (s, e)) (hq : (lo = 0 ∨ (lo / 2 = hi / 2 ∧ lo ≠ hi)) ∨ (lo = 1 ∨ lo = hi)) :
    Calls Try.prog 52 #[.agg #[.int .i64 s.ins, .slice A s.gates.length c], .int .i64 a, .int .i64 b] w (GivesCE base (bl (.slice A s.gates.length c)) w (andR s lo hi)) := by
  have hh := half_eq l0 (by omega)
  have hl := half_eq (show 0 ≤ hi by omega) h2
  rw [he]
  unfold andR at he
  obtain ⟨m, gs⟩ := s
  dsimp only at *
  have HO := Lib.hid (fun o o' => (ho.alloc o).alloc o')
  have n1 : (lo == 0) = decide (lo = 0) := rfl
  by_cases q1 : lo = 0
  · rw [if_pos (.inl q1)] at he
    obtain rfl : (0 : Int) = e := (Prod.mk.inj he).2
    clear he hq n1 ho
    have g1 : (lo == 0) = true := by simp [q1]
    rcases hs with ⟨e1, e2, h⟩ | ⟨e1, e2, h⟩
    all_goals
      rw [e1, e2]
      clear e1 e2
      go_enter Try.func52, Try.ntmps52
      go_wp2
      refine bodyPost_ret (v := .tuple #[.agg #[.int .i64 m, .slice A gs.length c], .int .i64 0]) (by simp [results, Try.results52, go_sem]) rfl ⟨A, c, rfl, HO.out _ _, Only.of_below (((Below.refl _ w).alloc (Nat.le_refl _) _).alloc (by simp) _) _, fun x hx => .inl hx⟩
  · have g1 : (lo == 0) = false := by simp [q1]
    by_cases q2 : lo / 2 = hi / 2
    · have g2 : (lo / 2 == hi / 2) = true := by simp [q2]
      by_cases q3 : lo = hi
      · rw [if_neg (by omega), if_pos (.inr q3)] at he
        obtain rfl : hi = e := (Prod.mk.inj he).2
        have g3 : (lo != hi) = false := by simp [q3]
        have g4 : (lo == hi) = true := by simp [q3]
        clear he hq n1 ho q2 q3
        cases g5 : (lo == 1)
        all_goals
          rcases hs with ⟨e1, e2, h⟩ | ⟨e1, e2, h⟩
          all_goals
            rw [e1, e2]
            clear e1 e2
            go_enter Try.func52, Try.ntmps52
            go_wp2
            refine bodyPost_ret (v := .tuple #[.agg #[.int .i64 m, .slice A gs.length c], .int .i64 hi]) (by simp [results, Try.results52, go_sem]) rfl ⟨A, c, rfl, HO.out _ _, Only.of_below (((Below.refl _ w).alloc (Nat.le_refl _) _).alloc (by simp) _) _, fun x hx => .inl hx⟩
      · rw [if_pos (.inr ⟨q2, q3⟩)] at he
        obtain rfl : (0 : Int) = e := (Prod.mk.inj he).2
        have g3 : (lo != hi) = true := by simp [q3]
        clear he hq n1 ho q2 q3
        rcases hs with ⟨e1, e2, h⟩ | ⟨e1, e2, h⟩
        all_goals
          rw [e1, e2]
          clear e1 e2
          go_enter Try.func52, Try.ntmps52
          go_wp2
          refine bodyPost_ret (v := .tuple #[.agg #[.int .i64 m, .slice A gs.length c], .int .i64 0]) (by simp [results, Try.results52, go_sem]) rfl ⟨A, c, rfl, HO.out _ _, Only.of_below (((Below.refl _ w).alloc (Nat.le_refl _) _).alloc (by simp) _) _, fun x hx => .inl hx⟩
    · have g2 : (lo / 2 == hi / 2) = false := by simp [q2]
      have q4 : lo = 1 ∨ lo = hi := by omega
      rw [if_neg (by omega), if_pos q4] at he
      obtain rfl : hi = e := (Prod.mk.inj he).2
      by_cases q5 : lo = 1
      · have g3 : (lo == 1) = true := by simp [q5]
        clear he hq n1 ho q2 q4 q5
        rcases hs with ⟨e1, e2, h⟩ | ⟨e1, e2, h⟩
        all_goals
          rw [e1, e2]
          clear e1 e2
          go_enter Try.func52, Try.ntmps52
          go_wp2
          refine bodyPost_ret (v := .tuple #[.agg #[.int .i64 m, .slice A gs.length c], .int .i64 hi]) (by simp [results, Try.results52, go_sem]) rfl ⟨A, c, rfl, HO.out _ _, Only.of_below (((Below.refl _ w).alloc (Nat.le_refl _) _).alloc (by simp) _) _, fun x hx => .inl hx⟩
      · omega

theorem rd_gates {w : World} {base n c : Nat} {t : TypeId} {A : Option Addr} {l : List Ga} (h : w.ownsRow base t 2 (.slice A n c) n (fl l)) (hl : l.length = n) (hn : n ≤ 1000000) : Mem.rd w w.heap.size [.slice A n c] l :=
  rd_flat.2 ⟨by unfold maxLen; omega, hl, Rd.of_own h⟩
theorem app_ga_at {ops : Array Oper} {rest : List Oper} {o : Oper} {a : Act} {Q : Exit → Act → World → Prop} {W : World} (hgd : o.guard = none) (s x : Operand)
    (ho : o.op = .call { callee := .builtin .append, args := #[s, x], argTypes := #[47, 47] }) (base : Nat) (v : Value) (k : Nat) (l : List Ga) (z : Ga) (g : Nat)
    (hs : a.eval s = v) (hown : W.ownsRow base 90 2 v k (fl l)) (hx : a.eval x = .slice (some ⟨g, 0, none⟩) 1 1) (hz : Blk W g 90 z.cs) (hk : k < 1000000000) (hb : base ≤ W.heap.size)
    (h : ∀ A' c' w', w'.ownsRow base 90 2 (.slice A' (k + 1) c') (k + 1) (fl (l ++ [z])) → W.grownBy w' v.ownBlock → ((Value.slice A' (k + 1) c').ownBlock = v.ownBlock ∨ (Value.slice A' (k + 1) c').ownBlock = some W.heap.size) → wpList Try.prog ops Q rest (a.put o.dst (.slice A' (k + 1) c')) w') :
    wpList Try.prog ops Q (o :: rest) a W := by
  obtain ⟨v', w', hr, q1, q2, q3⟩ := run_app_ga base v k l z o.type W hown ⟨g, 0, none⟩ (by
    intro j u hu
    rw [cell_at, hz.cell j]; exact hu) hk hb
  obtain ⟨A', c', rfl⟩ := row_slice q1
  refine wpList_plain hgd fun K hK' => ?_
  unfold Oper.wp execOp
  simp only [ho, resolve, invoke, builtin, Sem.run_bind, Sem.run_pure, Result.andThen_ok, List.map_toArray, List.map_cons, List.map_nil, hs, hx, hr]
  exact hK' _ _ (h A' c' w' q1 q2 q3)
end Go.Proofs.Ytnhjcokmajejcaa
