/- Rows of numbers that a call owns: append of many, copies. -/
import Derived.Test.YthlkbkomecnbaaaKinds
import Derived.Deep.RegionHeld3
import Derived.Deep.AppendLies
import Derived.Test.YthlkbkomecnbaaaLaw3
namespace Go.Proofs.Ythlkbkomecnbaaa
open Go.RowKit

theorem cell_at (g j : Nat) : (⟨g, 0, none⟩ : Addr).add j = ⟨g, j, none⟩ := by unfold Addr.add; split <;> simp_all

set_option maxRecDepth 100000 in
theorem run_app_int (base : Nat) (v : Value) (k : Nat) (l : List Int) (z : Int) (ty : TypeId) (W : World) (hown : W.ownsRow base 3 1 v k (ints l)) (ad : Addr) (had : W.cell? ad = some (.int .i64 z)) (hk : k < 1000000000000) (hb : base ≤ W.heap.size) :
    ∃ v' w', (Builtin.append_ #[22, 22] ty #[v, .slice (some ad) 1 1]).run Try.prog W = .ok v' w' ∧ w'.ownsRow base 3 1 v' (k + 1) (ints (l ++ [z])) ∧ W.grownBy w' v.ownBlock ∧
      ∀ b j, b < W.heap.size → (v.ownBlock = some b → j < k) → w'.cell? ⟨b, j, none⟩ = W.cell? ⟨b, j, none⟩ := by
  have hcell : ∀ (j : Nat) (u : Value), [Value.int .i64 z][j]? = some u → W.cell? (ad.add j) = some u := by
    intro j u hu
    cases j with
    | zero => rw [add_zero', had]; simpa using hu
    | succ j => simp at hu
  obtain ⟨v', w', hrun, h1, h2, _⟩ := run_append_own (P := Try.prog) W base 22 ty 3 intRow (.int .i64 0) 1 8 Try.underlying22 int_row.1 int_row.2.1 int_row.2.2.1 int_row.2.2.2 rfl (by decide) v k _ hown ad 1 1 [.int .i64 z] rfl hcell (by intro u hu; simp at hu; subst hu; rfl) (by unfold maxLen; omega) (by omega) hb
  refine ⟨v', w', hrun, by simpa [ints] using h1, h2, fun b j hbl hj => ?_⟩
  rcases hown.2 with ⟨rfl, rfl⟩ | ⟨g, cap, cur, rfl, hbg, hg, hnc, hcm, hcs, htake⟩
  · exact World.cell?_of_block (w := W) (h2.block b hbl (by simp [Value.ownBlock]))
  · by_cases e : b = g
    · subst e
      have hjk : j < k := hj (by simp [Value.ownBlock])
      by_cases hroom : k + 1 ≤ cap
      · have hr := run_append_room (P := Try.prog) W 22 ty 3 intRow Try.underlying22 int_row.1 b k cap cur hg ad 1 1 [.int .i64 z] (by rw [int_row.2.2.1]; rfl) hcell (by intro u hu; simp at hu; subst hu; rfl) hroom (by rw [int_row.2.2.1]; simp; omega)
        have hr' := hrun.symm.trans hr
        injection hr' with _ hw
        subst hw
        rw [cell_of_row _ b j _ 3 (0, 0) (setRow_heap W b cur _ _ _ hg), cell_of_row W b j cur 3 (0, 0) hg]
        rw [int_row.2.2.1]
        have hs : cur.size = cap := by omega
        simp [show j < cur.size by omega]
        rw [List.getElem?_append_left (by simp; omega)]
        simp [hjk]
      · have holds : ∀ j u, (ints l)[j]? = some u → W.cell? ((⟨b, 0, none⟩ : Addr).add j) = some u := hown.cells (g := b) rfl
        have hr := run_append_grow (P := Try.prog) W 22 ty 3 intRow (.int .i64 0) Try.underlying22 int_row.1 int_row.2.1 ⟨b, 0, none⟩ k cap (ints l) (by rw [int_row.2.2.1]; exact hown.1) holds ad 1 1 [.int .i64 z] (by rw [int_row.2.2.1]; rfl) hcell (by omega) (by omega) (by rw [int_row.2.2.2]; exact growslice_fits (by omega) (by omega))
        have hr' := hrun.symm.trans hr
        injection hr' with _ hw
        subst hw
        exact World.cell?_of_block (w := W) (Below.heap_alloc W.drew _ b hbl)
    · exact World.cell?_of_block (w := W) (h2.block b hbl (by simp [Value.ownBlock, e]))

/-- The same as a step of a region that draws its order. -/
theorem step_app_int {ops : Array Oper} {o : Oper} {a : Act} {K : Act → World → Prop} {Q : Exit → Act → World → Prop} {E : Prop} {W : World} (hgd : o.guard = none) (s x : Operand)
    (ho : o.op = .call { callee := .builtin .append, args := #[s, x], argTypes := #[22, 22] }) (base : Nat) (v : Value) (k : Nat) (l : List Int) (z : Int) (ad : Addr)
    (hs : a.eval s = v) (hown : W.ownsRow base 3 1 v k (ints l)) (hx : a.eval x = .slice (some ad) 1 1) (had : W.cell? ad = some (.int .i64 z)) (hk : k < 1000000000000) (hb : base ≤ W.heap.size)
    (h : ∀ v' w', w'.ownsRow base 3 1 v' (k + 1) (ints (l ++ [z])) → W.grownBy w' v.ownBlock → (∀ b j, b < W.heap.size → (v.ownBlock = some b → j < k) → w'.cell? ⟨b, j, none⟩ = W.cell? ⟨b, j, none⟩) → K (a.put o.dst v') w') :
    if Region.wanted o (yielded ops a.tmps) = true then Oper.wp Try.prog o a W K Q else E := by
  have hw : Region.wanted o (yielded ops a.tmps) = true := by simp [Region.wanted, hgd]
  rw [if_pos hw]
  obtain ⟨v', w', hr, h1, h2, h3⟩ := run_app_int base v k l z o.type W hown ad had hk hb
  unfold Oper.wp execOp
  simp only [ho, resolve, invoke, builtin, Sem.run_bind, Sem.run_pure, Result.andThen_ok, List.map_toArray, List.map_cons, List.map_nil, hs, hx, hr]
  exact h v' w' h1 h2 h3

/-- The same in a plain region, wherever the new cell lies. -/
theorem app_int_at {ops : Array Oper} {rest : List Oper} {o : Oper} {a : Act} {Q : Exit → Act → World → Prop} {W : World} (hgd : o.guard = none) (s x : Operand)
    (ho : o.op = .call { callee := .builtin .append, args := #[s, x], argTypes := #[22, 22] }) (base : Nat) (v : Value) (k : Nat) (l : List Int) (z : Int) (ad : Addr)
    (hs : a.eval s = v) (hown : W.ownsRow base 3 1 v k (ints l)) (hx : a.eval x = .slice (some ad) 1 1) (had : W.cell? ad = some (.int .i64 z)) (hk : k < 1000000000000) (hb : base ≤ W.heap.size)
    (h : ∀ v' w', w'.ownsRow base 3 1 v' (k + 1) (ints (l ++ [z])) → Below base W w' → wpList Try.prog ops Q rest (a.put o.dst v') w') :
    wpList Try.prog ops Q (o :: rest) a W := by
  obtain ⟨v', w', hr, h1, h2, _⟩ := run_app_int base v k l z o.type W hown ad had hk hb
  refine wpList_plain hgd fun K hK' => ?_
  unfold Oper.wp execOp
  simp only [ho, resolve, invoke, builtin, Sem.run_bind, Sem.run_pure, Result.andThen_ok, List.map_toArray, List.map_cons, List.map_nil, hs, hx, hr]
  exact hK' _ _ (h v' w' h1 ((Below.refl base W).grown h2 hb (fun g hg => (hown.lt g hg).1)))

theorem own_base {w : World} {base base' size n : Nat} {e : TypeId} {v : Value} {xs : List Value} (h : w.ownsRow base e size v n xs) (hb : base' ≤ base) : w.ownsRow base' e size v n xs :=
  ⟨h.1, by
    rcases h.2 with h' | ⟨g', cap', cur', e', hg', rest⟩
    · exact .inl h'
    · exact .inr ⟨g', cap', cur', e', Nat.le_trans hb hg', rest⟩⟩

end Go.Proofs.Ythlkbkomecnbaaa
namespace Go.Proofs.Ythlkbkomecnbaaa
open Go.RowKit

theorem ints_one (l : List Int) : ∀ u ∈ ints l, u.oneCell' = true := by
  intro u hu
  unfold ints at hu
  obtain ⟨x, _, rfl⟩ := List.mem_map.1 hu
  rfl
theorem ints_app (l m : List Int) : ints (l ++ m) = ints l ++ ints m := by unfold ints; rw [List.map_append]

/-- 'append(v, xs...)' onto a row of numbers of the call's own. -/
theorem run_app_ints (base : Nat) (v : Value) (k : Nat) (l m : List Int) (c : Nat) (ty : TypeId) (W : World) (hown : W.ownsRow base 3 1 v k (ints l)) (ad : Addr) (hm : ∀ j u, (ints m)[j]? = some u → W.cell? (ad.add j) = some u) (hk : k + m.length < 1000000000000) (hb : base ≤ W.heap.size) :
    ∃ v' w', (Builtin.append_ #[22, 22] ty #[v, .slice (some ad) m.length c]).run Try.prog W = .ok v' w' ∧ w'.ownsRow base 3 1 v' (k + m.length) (ints (l ++ m)) ∧ W.grownBy w' v.ownBlock := by
  obtain ⟨v', w', hrun, h1, h2, _⟩ := run_append_own (P := Try.prog) W base 22 ty 3 intRow (.int .i64 0) 1 8 Try.underlying22 int_row.1 int_row.2.1 int_row.2.2.1 int_row.2.2.2 rfl (by decide) v k _ hown ad m.length c (ints m) (by rw [len_ints]; omega) hm (ints_one m) (by unfold maxLen; omega) (by omega) hb
  exact ⟨v', w', hrun, by rw [ints_app]; exact h1, h2⟩

theorem app_ints_at {ops : Array Oper} {rest : List Oper} {o : Oper} {a : Act} {Q : Exit → Act → World → Prop} {W : World} (hgd : o.guard = none) (s x : Operand)
    (ho : o.op = .call { callee := .builtin .append, args := #[s, x], argTypes := #[22, 22] }) (base : Nat) (v : Value) (k : Nat) (l m : List Int) (c n : Nat) (ad : Addr)
    (hs : a.eval s = v) (hown : W.ownsRow base 3 1 v k (ints l)) (hx : a.eval x = .slice (some ad) n c) (hn : m.length = n) (hm : ∀ j u, (ints m)[j]? = some u → W.cell? (ad.add j) = some u) (hk : k + n < 1000000000000) (hb : base ≤ W.heap.size)
    (h : ∀ v' w', w'.ownsRow base 3 1 v' (k + n) (ints (l ++ m)) → Below base W w' → wpList Try.prog ops Q rest (a.put o.dst v') w') :
    wpList Try.prog ops Q (o :: rest) a W := by
  subst hn
  obtain ⟨v', w', hr, h1, h2⟩ := run_app_ints base v k l m c o.type W hown ad hm hk hb
  refine wpList_plain hgd fun K hK' => ?_
  unfold Oper.wp execOp
  simp only [ho, resolve, invoke, builtin, Sem.run_bind, Sem.run_pure, Result.andThen_ok, List.map_toArray, List.map_cons, List.map_nil, hs, hx, hr]
  exact hK' _ _ (h v' w' h1 ((Below.refl base W).grown h2 hb (fun g hg => (hown.lt g hg).1)))

set_option maxHeartbeats 1000000 in
theorem clone_int (A : Option Addr) (n c : Nat) (l : List Int) (w : World) (h : Rd w w.heap.size 1 A n (ints l)) (hn : n ≤ 1048576) :
    Calls Try.prog 55 #[.slice A n c] w (GivesInts w l) := by
  have hl := h.len
  cases A with
  | none =>
    have h0 : n = 0 := by
      rcases Nat.eq_zero_or_pos n with e | e
      · exact e
      · obtain ⟨ad, e', _⟩ := h.2 e
        cases e'
    subst h0
    obtain rfl : l = [] := List.eq_nil_of_length_eq_zero hl
    clear h hl
    have he := fun W : World => Lib.run_eql_slice_nil (P := Try.prog) W 22 3 none 0 c 0 0 Try.underlying22
    go_enter Try.func55, Try.ntmps55
    go_wp2
    go_ret
    exact ⟨_, rfl, World.ownsRow_nil _ _ _ _, Below.refl _ _⟩
  | some ad =>
    have hm : ∀ o j u, (ints l)[j]? = some u → (w.alloc o).cell? (ad.add j) = some u := by
      intro o j u hu
      have hj : j < (ints l).length := (List.getElem?_eq_some_iff.1 hu).1
      obtain ⟨ad', e, hb, hc⟩ := h.2 (by have := h.1; omega)
      injection e with e; subst e
      exact cell_alloc hb (hc j u hu) o
    have hown0 := World.ownsRow_lit (base := w.heap.size) (e := 3) (size := 1) w #[] 0 (Nat.le_refl _) (by unfold maxLen; omega) rfl
    have HM := Lib.hid hm
    have HL := Lib.hid hl
    clear hm hl h
    have he := fun W : World => Lib.run_eql_slice_nil (P := Try.prog) W 22 3 (some ad) n c 0 0 Try.underlying22
    go_enter Try.func55, Try.ntmps55
    go_wp2_with (first | (at_builtin; refine app_ints_at rfl _ _ rfl w.heap.size _ 0 [] l c n ad rfl hown0 rfl HL.out (HM.out _) (by omega) (by simp) ?_; intro v' w1 ho hb))
    go_ret
    rw [Nat.zero_add, List.nil_append, ← HL.out] at ho
    exact ⟨_, rfl, ho, (below_alloc _ _).trans hb⟩
end Go.Proofs.Ythlkbkomecnbaaa
