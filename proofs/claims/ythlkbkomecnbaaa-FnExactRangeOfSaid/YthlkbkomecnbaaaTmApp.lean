/- Rows of terms that a call owns: append, copy, a field that is written. -/
import Derived.Test.YthlkbkomecnbaaaIntApp
import Derived.Test.YthlkbkomecnbaaaLaw3
namespace Go.Proofs.Ythlkbkomecnbaaa
open Go.RowKit

theorem cs_one (t : Tm) : ∀ u ∈ t.cs, u.oneCell' = true := by
  intro u hu
  simp [Tm.cs] at hu
  rcases hu with rfl | rfl | rfl | rfl <;> rfl
theorem tms_one (l : List Tm) : ∀ u ∈ tms l, u.oneCell' = true := by
  intro u hu
  unfold tms at hu
  obtain ⟨t, _, h⟩ := List.mem_flatMap.1 hu
  exact cs_one t u h
theorem tms_app (l m : List Tm) : tms (l ++ m) = tms l ++ tms m := by unfold tms; rw [List.flatMap_append]
theorem tms_one' (t : Tm) : tms [t] = t.cs := by simp [tms]

/-- 'append(v, xs...)' onto a row of terms of the call's own. -/
theorem run_app_tms (base : Nat) (v : Value) (k : Nat) (l m : List Tm) (c : Nat) (ty : TypeId) (W : World) (hown : W.ownsRow base 102 4 v k (tms l)) (ad : Addr) (hm : ∀ j u, (tms m)[j]? = some u → W.cell? (ad.add j) = some u) (hk : k + m.length < 1000000000000) (hb : base ≤ W.heap.size) :
    ∃ v' w', (Builtin.append_ #[60, 60] ty #[v, .slice (some ad) m.length c]).run Try.prog W = .ok v' w' ∧ w'.ownsRow base 102 4 v' (k + m.length) (tms (l ++ m)) ∧ W.grownBy w' v.ownBlock := by
  obtain ⟨v', w', hrun, h1, h2, _⟩ := run_append_own (P := Try.prog) W base 60 ty 102 tmRow (.agg #[.int .i64 0, .int .i64 0, .int .i64 0, .int .i64 0]) 4 32 Try.underlying60 tm_row.1 tm_row.2.1 tm_row.2.2.1 tm_row.2.2.2 rfl (by decide) v k _ hown ad m.length c (tms m) (len_tms m) hm (tms_one m) (by unfold maxLen; omega) (by omega) hb
  exact ⟨v', w', hrun, by rw [tms_app]; exact h1, h2⟩

theorem app_tms_at {ops : Array Oper} {rest : List Oper} {o : Oper} {a : Act} {Q : Exit → Act → World → Prop} {W : World} (hgd : o.guard = none) (s x : Operand)
    (ho : o.op = .call { callee := .builtin .append, args := #[s, x], argTypes := #[60, 60] }) (base : Nat) (v : Value) (k : Nat) (l m : List Tm) (c n : Nat) (ad : Addr)
    (hs : a.eval s = v) (hown : W.ownsRow base 102 4 v k (tms l)) (hx : a.eval x = .slice (some ad) n c) (hn : m.length = n) (hm : ∀ j u, (tms m)[j]? = some u → W.cell? (ad.add j) = some u) (hk : k + n < 1000000000000) (hb : base ≤ W.heap.size)
    (h : ∀ v' w', w'.ownsRow base 102 4 v' (k + n) (tms (l ++ m)) → Below base W w' → wpList Try.prog ops Q rest (a.put o.dst v') w') :
    wpList Try.prog ops Q (o :: rest) a W := by
  subst hn
  obtain ⟨v', w', hr, h1, h2⟩ := run_app_tms base v k l m c o.type W hown ad hm hk hb
  refine wpList_plain hgd fun K hK' => ?_
  unfold Oper.wp execOp
  simp only [ho, resolve, invoke, builtin, Sem.run_bind, Sem.run_pure, Result.andThen_ok, List.map_toArray, List.map_cons, List.map_nil, hs, hx, hr]
  exact hK' _ _ (h v' w' h1 ((Below.refl base W).grown h2 hb (fun g hg => (hown.lt g hg).1)))

/-- The cells of one new term. -/
theorem new_tm (W : World) (t : Tm) : ∀ j u, (tms [t])[j]? = some u → (W.alloc (.cells #[.int .i64 t.op, .int .i64 t.n, .int .i64 t.a, .int .i64 t.b] 102)).cell? ((⟨W.heap.size, 0, none⟩ : Addr).add j) = some u := by
  intro j u hu
  rw [tms_one'] at hu
  rw [cell_at, World.cell?_alloc_at _ _ _ _ rfl]
  match j, hu with
  | 0, hu => exact hu
  | 1, hu => exact hu
  | 2, hu => exact hu
  | 3, hu => exact hu

end Go.Proofs.Ythlkbkomecnbaaa
