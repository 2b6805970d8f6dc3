/- Rows of numbers that a call owns: append of many, copies. -/
import Derived.Test.YtmlhnnkdecabpaaDoorApp
import Derived.Test.YtmlhnnkdecabpaaDoorLaw3
namespace Go.Proofs.YtmlhnnkdecabpaaDoor
open Go.RowKit

theorem ints_one (l : List Int) : ∀ u ∈ ints l, u.oneCell' = true := by
  intro u hu
  unfold ints at hu
  obtain ⟨x, _, rfl⟩ := List.mem_map.1 hu
  rfl
theorem ints_app (l m : List Int) : ints (l ++ m) = ints l ++ ints m := by unfold ints; rw [List.map_append]

/-- 'append(v, xs...)' onto a row of numbers of the call's own. -/
theorem run_app_ints (base : Nat) (v : Value) (k : Nat) (l m : List Int) (c : Nat) (ty : TypeId) (W : World) (hown : W.ownsRow base 3 1 v k (ints l)) (ad : Addr) (hm : ∀ j u, (ints m)[j]? = some u → W.cell? (ad.add j) = some u) (hk : k + m.length < 1000000000000) (hb : base ≤ W.heap.size) :
    ∃ v' w', (Builtin.append_ #[29, 29] ty #[v, .slice (some ad) m.length c]).run Tryd.prog W = .ok v' w' ∧ w'.ownsRow base 3 1 v' (k + m.length) (ints (l ++ m)) ∧ W.grownBy w' v.ownBlock := by
  obtain ⟨v', w', hrun, h1, h2, _⟩ := run_append_own (P := Tryd.prog) W base 29 ty 3 intRow (.int .i64 0) 1 8 Tryd.underlying29 int_row.1 int_row.2.1 int_row.2.2.1 int_row.2.2.2 rfl (by decide) v k _ hown ad m.length c (ints m) (by rw [len_ints]; omega) hm (ints_one m) (by unfold maxLen; omega) (by omega) hb
  exact ⟨v', w', hrun, by rw [ints_app]; exact h1, h2⟩

theorem app_ints_at {ops : Array Oper} {rest : List Oper} {o : Oper} {a : Act} {Q : Exit → Act → World → Prop} {W : World} (hgd : o.guard = none) (s x : Operand)
    (ho : o.op = .call { callee := .builtin .append, args := #[s, x], argTypes := #[29, 29] }) (base : Nat) (v : Value) (k : Nat) (l m : List Int) (c n : Nat) (ad : Addr)
    (hs : a.eval s = v) (hown : W.ownsRow base 3 1 v k (ints l)) (hx : a.eval x = .slice (some ad) n c) (hn : m.length = n) (hm : ∀ j u, (ints m)[j]? = some u → W.cell? (ad.add j) = some u) (hk : k + n < 1000000000000) (hb : base ≤ W.heap.size)
    (h : ∀ v' w', w'.ownsRow base 3 1 v' (k + n) (ints (l ++ m)) → Below base W w' → wpList Tryd.prog ops Q rest (a.put o.dst v') w') :
    wpList Tryd.prog ops Q (o :: rest) a W := by
  subst hn
  obtain ⟨v', w', hr, h1, h2⟩ := run_app_ints base v k l m c o.type W hown ad hm hk hb
  refine wpList_plain hgd fun K hK' => ?_
  unfold Oper.wp execOp
  simp only [ho, resolve, invoke, builtin, Sem.run_bind, Sem.run_pure, Result.andThen_ok, List.map_toArray, List.map_cons, List.map_nil, hs, hx, hr]
  exact hK' _ _ (h v' w' h1 ((Below.refl base W).grown h2 hb (fun g hg => (hown.lt g hg).1)))

end Go.Proofs.YtmlhnnkdecabpaaDoor
