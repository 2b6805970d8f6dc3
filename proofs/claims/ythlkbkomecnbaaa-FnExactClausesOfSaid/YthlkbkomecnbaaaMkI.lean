/- Circuits that are made: the maker's words. -/
import Derived.Test.YthlkbkomecnbaaaMkP
import Derived.Test.YthlkbkomecnbaaaCiW
namespace Go.Proofs.Ythlkbkomecnbaaa
open Go.RowKit
set_option maxRecDepth 100000

theorem fl_snoc (l : List Ga) (x : Ga) : fl (l ++ [x]) = fl l ++ x.cs := by
  unfold fl
  rw [List.length_append]
  show cat _ (l.length + 1) = _
  rw [cat_succ, el_last]
  congr 1
  exact cat_congr fun k hk => by rw [el_left hk]
theorem fl_ga_one (l : List Ga) : ∀ u ∈ fl l, u.oneCell' = true := by
  intro u hu
  obtain ⟨k, _, h⟩ := mem_cat.1 hu
  simp [Flat.enc, Ga.cs] at h
  rcases h with rfl | rfl <;> rfl
theorem ga_one (x : Ga) : ∀ u ∈ x.cs, u.oneCell' = true := by
  intro u h
  simp [Ga.cs] at h
  rcases h with rfl | rfl <;> rfl

/-- 'append(v, x)' onto a row of gates of the call's own. -/
theorem run_app_ga (base : Nat) (v : Value) (k : Nat) (l : List Ga) (x : Ga) (ty : TypeId) (W : World) (hown : W.ownsRow base 92 2 v k (fl l)) (ad : Addr) (hm : ∀ j u, x.cs[j]? = some u → W.cell? (ad.add j) = some u) (hk : k < 1000000000) (hb : base ≤ W.heap.size) :
    ∃ v' w', (Builtin.append_ #[46, 46] ty #[v, .slice (some ad) 1 1]).run Try.prog W = .ok v' w' ∧ w'.ownsRow base 92 2 v' (k + 1) (fl (l ++ [x])) ∧ W.grownBy w' v.ownBlock ∧ (v'.ownBlock = v.ownBlock ∨ v'.ownBlock = some W.heap.size) := by
  obtain ⟨v', w', hrun, h1, h2, _, h4⟩ := run_append_own_at (P := Try.prog) W base 46 ty 92 gaRow (.agg #[.int .i64 0, .int .i64 0]) 2 16 Try.underlying46 ga_row.1 ga_row.2.1 ga_row.2.2.1 ga_row.2.2.2 rfl (by decide) v k _ hown ad 1 1 x.cs rfl hm (ga_one x) (by unfold maxLen; omega) (by omega) hb
  refine ⟨v', w', hrun, by rw [fl_snoc]; exact h1, h2, ?_⟩
  rcases h4 with h | h
  · exact .inl h
  · exact .inr h
theorem step_app_ga {ops : Array Oper} {o : Oper} {a : Act} {K : Act → World → Prop} {Q : Exit → Act → World → Prop} {E : Prop} {W : World} (hgd : o.guard = none) (s x : Operand)
    (ho : o.op = .call { callee := .builtin .append, args := #[s, x], argTypes := #[46, 46] }) (base : Nat) (v : Value) (k : Nat) (l : List Ga) (z : Ga) (ad : Addr)
    (hs : a.eval s = v) (hown : W.ownsRow base 92 2 v k (fl l)) (hx : a.eval x = .slice (some ad) 1 1) (h0 : W.cell? ad = some (.int .i64 z.a)) (h1 : W.cell? ⟨ad.block, ad.off + 1, none⟩ = some (.int .i64 z.b)) (hsub : ad = ⟨ad.block, 0, none⟩) (hk : k < 1000000000) (hb : base ≤ W.heap.size)
    (h : ∀ A' c' w', w'.ownsRow base 92 2 (.slice A' (k + 1) c') (k + 1) (fl (l ++ [z])) → W.grownBy w' v.ownBlock → ((Value.slice A' (k + 1) c').ownBlock = v.ownBlock ∨ (Value.slice A' (k + 1) c').ownBlock = some W.heap.size) → K (a.put o.dst (.slice A' (k + 1) c')) w') :
    if Region.wanted o (yielded ops a.tmps) = true then Oper.wp Try.prog o a W K Q else E := by
  have hw : Region.wanted o (yielded ops a.tmps) = true := by simp [Region.wanted, hgd]
  rw [if_pos hw]
  obtain ⟨v', w', hr, q1, q2, q3⟩ := run_app_ga base v k l z o.type W hown ad (by
    intro j u hu
    rw [hsub]
    rw [cell_at]
    rw [hsub] at h0 h1
    match j, hu with
    | 0, hu => simp [Ga.cs] at hu; subst hu; exact h0
    | 1, hu => simp [Ga.cs] at hu; subst hu; exact h1) hk hb
  obtain ⟨A', c', rfl⟩ := row_slice q1
  unfold Oper.wp execOp
  simp only [ho, resolve, invoke, builtin, Sem.run_bind, Sem.run_pure, Result.andThen_ok, List.map_toArray, List.map_cons, List.map_nil, hs, hx, hr]
  exact h A' c' w' q1 q2 q3
/-- The map tells of each pair of edges the first gate that has it. -/
structure FitD (D : DataW Unit) (c : Ci) : Prop where
  isMap : Maps.IsMap D
  has : ∀ a b kl, keyOf Try.prog 92 (.agg #[.int .i64 a, .int .i64 b]) = some kl → Maps.has D kl = (findB c.gates a b).isSome
  at_ : ∀ a b kl i, keyOf Try.prog 92 (.agg #[.int .i64 a, .int .i64 b]) = some kl → findB c.gates a b = some i → D.atKey kl (.lit (.int .i64 0)) = .lit (.int .i64 (1 + c.ins + i))
theorem fit_nil (m : Int) : FitD (.map []) ⟨m, []⟩ := ⟨Maps.isMap_empty, fun a b kl _ => by simp [Maps.has_eq, findB, findTo], fun a b kl i _ h => by cases h⟩
theorem fit_old {D : DataW Unit} {c : Ci} {a b : Int} {i : Nat} (h : FitD D c) (e : findB c.gates a b = some i) : FitD D ⟨c.ins, c.gates ++ [⟨a, b⟩]⟩ := by
  refine ⟨h.isMap, fun a' b' kl hk => ?_, fun a' b' kl j hk hj => ?_⟩
  · rw [h.has a' b' kl hk]
    show _ = (findB (c.gates ++ [_]) a' b').isSome
    rw [findB_app]
    cases q : findB c.gates a' b' with
    | some j => rfl
    | none =>
      dsimp only
      rw [if_neg]
      rintro ⟨rfl, rfl⟩
      rw [e] at q; cases q
  · have hj : findB (c.gates ++ [⟨a, b⟩]) a' b' = some j := hj
    rw [findB_app] at hj
    cases q : findB c.gates a' b' with
    | some k =>
      rw [q] at hj
      injection hj with hj
      subst hj
      exact h.at_ a' b' kl k hk q
    | none =>
      rw [q] at hj
      dsimp only at hj
      split at hj
      · rename_i r
        obtain ⟨rfl, rfl⟩ := r
        rw [e] at q; cases q
      · cases hj
theorem fit_new {D : DataW Unit} {c : Ci} {a b : Int} {kl : Lit} (h : FitD D c) (e : findB c.gates a b = none) (hk : keyOf Try.prog 92 (.agg #[.int .i64 a, .int .i64 b]) = some kl) :
    FitD (D.put kl (.lit (.int .i64 (1 + c.ins + c.gates.length)))) ⟨c.ins, c.gates ++ [⟨a, b⟩]⟩ := by
  have hkl := and_law.key hk
  have same : ∀ a' b' kl', keyOf Try.prog 92 (.agg #[.int .i64 a', .int .i64 b']) = some kl' → (kl' = kl ↔ a = a' ∧ b = b') := fun a' b' kl' hk' => by
    constructor
    · rintro rfl
      have := and_law.inj hk' hk
      simp at this
      exact ⟨this.1.symm, this.2.symm⟩
    · rintro ⟨rfl, rfl⟩
      rw [hk] at hk'; injection hk' with hk'; exact hk'.symm
  refine ⟨h.isMap.put _ _, fun a' b' kl' hk' => ?_, fun a' b' kl' j hk' hj => ?_⟩
  · show _ = (findB (c.gates ++ [⟨a, b⟩]) a' b').isSome
    rw [findB_app]
    by_cases q : kl' = kl
    · have q2 := (same a' b' kl' hk').1 q
      subst q
      obtain ⟨rfl, rfl⟩ := q2
      rw [Maps.has_put_same h.isMap hkl, e]
      dsimp only
      rw [if_pos ⟨rfl, rfl⟩]; rfl
    · rw [Maps.has_put_other q, h.has a' b' kl' hk']
      cases z : findB c.gates a' b' with
      | some j => rfl
      | none =>
        dsimp only
        rw [if_neg (fun r => q ((same a' b' kl' hk').2 r))]
  · have hj : findB (c.gates ++ [⟨a, b⟩]) a' b' = some j := hj
    rw [findB_app] at hj
    by_cases q : kl' = kl
    · have q2 := (same a' b' kl' hk').1 q
      subst q
      obtain ⟨rfl, rfl⟩ := q2
      rw [e] at hj
      dsimp only at hj
      rw [if_pos ⟨rfl, rfl⟩] at hj
      injection hj with hj
      subst hj
      rw [Maps.atKey_put_same h.isMap hkl]
    · rw [Maps.atKey_put_other q]
      cases z : findB c.gates a' b' with
      | some k =>
        rw [z] at hj
        injection hj with hj
        subst hj
        exact h.at_ a' b' kl' k hk' z
      | none =>
        rw [z] at hj
        dsimp only at hj
        rw [if_neg (fun r => q ((same a' b' kl' hk').2 r))] at hj
        cases hj

end Go.Proofs.Ythlkbkomecnbaaa
