/- Rows of numbers that a call owns: append of many, copies. -/
import Derived.Test.YtfgjogmgcamfdaaDoorApp
import Derived.Test.YtfgjogmgcamfdaaDoorLaw3
namespace Go.Proofs.YtfgjogmgcamfdaaDoor
open Go.RowKit

theorem ints_one (l : List Int) : ∀ u ∈ ints l, u.oneCell' = true := by
  intro u hu
  unfold ints at hu
  obtain ⟨x, _, rfl⟩ := List.mem_map.1 hu
  rfl
theorem ints_app (l m : List Int) : ints (l ++ m) = ints l ++ ints m := by unfold ints; rw [List.map_append]

/-- 'append(v, xs...)' onto a row of numbers of the call's own. -/
theorem run_app_ints (base : Nat) (v : Value) (k : Nat) (l m : List Int) (c : Nat) (ty : TypeId) (W : World) (hown : W.ownsRow base 3 1 v k (ints l)) (ad : Addr) (hm : ∀ j u, (ints m)[j]? = some u → W.cell? (ad.add j) = some u) (hk : k + m.length < 1000000000000) (hb : base ≤ W.heap.size) :
    ∃ v' w', (Builtin.append_ #[29, 29] ty #[v, .slice (some ad) m.length c]).run Tryd.prog W = .ok v' w' ∧ w'.ownsRow base 3 1 v' (k + m.length) (ints (l ++ m)) ∧ W.grownBy w' v.ownBlock := by
  obtain ⟨v', w', hrun, h1, h2, _⟩ := run_append_own (P := Tryd.prog) W base 29 ty 3 intRow (.int .i64 0) 1 8 Tryd.underlying29 int_row.1 int_row.2.1 int_row.2.2.1 int_row.2.2.2 rfl (by decide) v k _ hown ad m.length c (ints m) (by rw [len_ints]; omega) hm (ints_one m) (by unfold maxLen; omega) (by omega) hb
  exact ⟨v', w', hrun, by rw [ints_app]; exact h1, h2⟩

theorem app_ints_at {ops : Array Oper} {rest : List Oper} {o : Oper} {a : Act} {Q : Exit → Act → World → Prop} {W : World} (hgd : o.guard = none) (s x : Operand)
    (ho : o.op = .call { callee := .builtin .append, args := #[s, x], argTypes := #[29, 29] }) (base : Nat) (v : Value) (k : Nat) (l m : List Int) (c n : Nat) (ad : Addr)
    (hs : a.eval s = v) (hown : W.ownsRow base 3 1 v k (ints l)) (hx : a.eval x = .slice (some ad) n c) (hn : m.length = n) (hm : ∀ j u, (ints m)[j]? = some u → W.cell? (ad.add j) = some u) (hk : k + n < 1000000000000) (hb : base ≤ W.heap.size)
    (h : ∀ v' w', w'.ownsRow base 3 1 v' (k + n) (ints (l ++ m)) → Below base W w' → wpList Tryd.prog ops Q rest (a.put o.dst v') w') :
    wpList Tryd.prog ops Q (o :: rest) a W := by
  subst hn
  obtain ⟨v', w', hr, h1, h2⟩ := run_app_ints base v k l m c o.type W hown ad hm hk hb
  refine wpList_plain hgd fun K hK' => ?_
  unfold Oper.wp execOp
  simp only [ho, resolve, invoke, builtin, Sem.run_bind, Sem.run_pure, Result.andThen_ok, List.map_toArray, List.map_cons, List.map_nil, hs, hx, hr]
  exact hK' _ _ (h v' w' h1 ((Below.refl base W).grown h2 hb (fun g hg => (hown.lt g hg).1)))

set_option maxHeartbeats 1000000 in
theorem clone_int (A : Option Addr) (n c : Nat) (l : List Int) (w : World) (h : Rd w w.heap.size 1 A n (ints l)) (hn : n ≤ 1048576) :
    Calls Tryd.prog 47 #[.slice A n c] w (GivesInts w l) := by
  have hl := h.len
  cases A with
  | none =>
    have h0 : n = 0 := by
      rcases Nat.eq_zero_or_pos n with e | e
      · exact e
      · obtain ⟨ad, e', _⟩ := h.2 e
        cases e'
    subst h0
    obtain rfl : l = [] := List.eq_nil_of_length_eq_zero hl
    clear h hl
    have he := fun W : World => Lib.run_eql_slice_nil (P := Tryd.prog) W 29 3 none 0 c 0 0 Tryd.underlying29
    go_enter Tryd.func47, Tryd.ntmps47
    go_wp2
    go_ret
    exact ⟨_, rfl, World.ownsRow_nil _ _ _ _, Below.refl _ _⟩
  | some ad =>
    have hm : ∀ o j u, (ints l)[j]? = some u → (w.alloc o).cell? (ad.add j) = some u := by
      intro o j u hu
      have hj : j < (ints l).length := (List.getElem?_eq_some_iff.1 hu).1
      obtain ⟨ad', e, hb, hc⟩ := h.2 (by have := h.1; omega)
      injection e with e; subst e
      exact cell_alloc hb (hc j u hu) o
    have hown0 := World.ownsRow_lit (base := w.heap.size) (e := 3) (size := 1) w #[] 0 (Nat.le_refl _) (by unfold maxLen; omega) rfl
    have HM := Lib.hid hm
    have HL := Lib.hid hl
    clear hm hl h
    have he := fun W : World => Lib.run_eql_slice_nil (P := Tryd.prog) W 29 3 (some ad) n c 0 0 Tryd.underlying29
    go_enter Tryd.func47, Tryd.ntmps47
    go_wp2_with (first | (at_builtin; refine app_ints_at rfl _ _ rfl w.heap.size _ 0 [] l c n ad rfl hown0 rfl HL.out (HM.out _) (by omega) (by simp) ?_; intro v' w1 ho hb))
    go_ret
    rw [Nat.zero_add, List.nil_append, ← HL.out] at ho
    exact ⟨_, rfl, ho, (below_alloc _ _).trans hb⟩
end Go.Proofs.YtfgjogmgcamfdaaDoor
