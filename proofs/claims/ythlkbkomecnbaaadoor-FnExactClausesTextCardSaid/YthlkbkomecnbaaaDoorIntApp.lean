/- Rows of numbers that a call owns: append of many, copies. -/
import Derived.Test.YthlkbkomecnbaaaDoorKinds
import Derived.Deep.RegionHeld3
import Derived.Deep.AppendLies
import Derived.Test.YthlkbkomecnbaaaDoorLaw3
namespace Go.Proofs.YthlkbkomecnbaaaDoor
open Go.RowKit

theorem cell_at (g j : Nat) : (⟨g, 0, none⟩ : Addr).add j = ⟨g, j, none⟩ := by unfold Addr.add; split <;> simp_all

set_option maxRecDepth 100000 in
theorem run_app_int (base : Nat) (v : Value) (k : Nat) (l : List Int) (z : Int) (ty : TypeId) (W : World) (hown : W.ownsRow base 3 1 v k (ints l)) (ad : Addr) (had : W.cell? ad = some (.int .i64 z)) (hk : k < 1000000000000) (hb : base ≤ W.heap.size) :
    ∃ v' w', (Builtin.append_ #[34, 34] ty #[v, .slice (some ad) 1 1]).run Tryd.prog W = .ok v' w' ∧ w'.ownsRow base 3 1 v' (k + 1) (ints (l ++ [z])) ∧ W.grownBy w' v.ownBlock ∧
      ∀ b j, b < W.heap.size → (v.ownBlock = some b → j < k) → w'.cell? ⟨b, j, none⟩ = W.cell? ⟨b, j, none⟩ := by
  have hcell : ∀ (j : Nat) (u : Value), [Value.int .i64 z][j]? = some u → W.cell? (ad.add j) = some u := by
    intro j u hu
    cases j with
    | zero => rw [add_zero', had]; simpa using hu
    | succ j => simp at hu
  obtain ⟨v', w', hrun, h1, h2, _⟩ := run_append_own (P := Tryd.prog) W base 34 ty 3 intRow (.int .i64 0) 1 8 Tryd.underlying34 int_row.1 int_row.2.1 int_row.2.2.1 int_row.2.2.2 rfl (by decide) v k _ hown ad 1 1 [.int .i64 z] rfl hcell (by intro u hu; simp at hu; subst hu; rfl) (by unfold maxLen; omega) (by omega) hb
  refine ⟨v', w', hrun, by simpa [ints] using h1, h2, fun b j hbl hj => ?_⟩
  rcases hown.2 with ⟨rfl, rfl⟩ | ⟨g, cap, cur, rfl, hbg, hg, hnc, hcm, hcs, htake⟩
  · exact World.cell?_of_block (w := W) (h2.block b hbl (by simp [Value.ownBlock]))
  · by_cases e : b = g
    · subst e
      have hjk : j < k := hj (by simp [Value.ownBlock])
      by_cases hroom : k + 1 ≤ cap
      · have hr := run_append_room (P := Tryd.prog) W 34 ty 3 intRow Tryd.underlying34 int_row.1 b k cap cur hg ad 1 1 [.int .i64 z] (by rw [int_row.2.2.1]; rfl) hcell (by intro u hu; simp at hu; subst hu; rfl) hroom (by rw [int_row.2.2.1]; simp; omega)
        have hr' := hrun.symm.trans hr
        injection hr' with _ hw
        subst hw
        rw [cell_of_row _ b j _ 3 (0, 0) (setRow_heap W b cur _ _ _ hg), cell_of_row W b j cur 3 (0, 0) hg]
        rw [int_row.2.2.1]
        have hs : cur.size = cap := by omega
        simp [show j < cur.size by omega]
        rw [List.getElem?_append_left (by simp; omega)]
        simp [hjk]
      · have holds : ∀ j u, (ints l)[j]? = some u → W.cell? ((⟨b, 0, none⟩ : Addr).add j) = some u := hown.cells (g := b) rfl
        have hr := run_append_grow (P := Tryd.prog) W 34 ty 3 intRow (.int .i64 0) Tryd.underlying34 int_row.1 int_row.2.1 ⟨b, 0, none⟩ k cap (ints l) (by rw [int_row.2.2.1]; exact hown.1) holds ad 1 1 [.int .i64 z] (by rw [int_row.2.2.1]; rfl) hcell (by omega) (by omega) (by rw [int_row.2.2.2]; exact growslice_fits (by omega) (by omega))
        have hr' := hrun.symm.trans hr
        injection hr' with _ hw
        subst hw
        exact World.cell?_of_block (w := W) (Below.heap_alloc W.drew _ b hbl)
    · exact World.cell?_of_block (w := W) (h2.block b hbl (by simp [Value.ownBlock, e]))

/-- The same as a step of a region that draws its order. -/
theorem step_app_int {ops : Array Oper} {o : Oper} {a : Act} {K : Act → World → Prop} {Q : Exit → Act → World → Prop} {E : Prop} {W : World} (hgd : o.guard = none) (s x : Operand)
    (ho : o.op = .call { callee := .builtin .append, args := #[s, x], argTypes := #[34, 34] }) (base : Nat) (v : Value) (k : Nat) (l : List Int) (z : Int) (ad : Addr)
    (hs : a.eval s = v) (hown : W.ownsRow base 3 1 v k (ints l)) (hx : a.eval x = .slice (some ad) 1 1) (had : W.cell? ad = some (.int .i64 z)) (hk : k < 1000000000000) (hb : base ≤ W.heap.size)
    (h : ∀ v' w', w'.ownsRow base 3 1 v' (k + 1) (ints (l ++ [z])) → W.grownBy w' v.ownBlock → (∀ b j, b < W.heap.size → (v.ownBlock = some b → j < k) → w'.cell? ⟨b, j, none⟩ = W.cell? ⟨b, j, none⟩) → K (a.put o.dst v') w') :
    if Region.wanted o (yielded ops a.tmps) = true then Oper.wp Tryd.prog o a W K Q else E := by
  have hw : Region.wanted o (yielded ops a.tmps) = true := by simp [Region.wanted, hgd]
  rw [if_pos hw]
  obtain ⟨v', w', hr, h1, h2, h3⟩ := run_app_int base v k l z o.type W hown ad had hk hb
  unfold Oper.wp execOp
  simp only [ho, resolve, invoke, builtin, Sem.run_bind, Sem.run_pure, Result.andThen_ok, List.map_toArray, List.map_cons, List.map_nil, hs, hx, hr]
  exact h v' w' h1 h2 h3

/-- The same in a plain region, wherever the new cell lies. -/
theorem app_int_at {ops : Array Oper} {rest : List Oper} {o : Oper} {a : Act} {Q : Exit → Act → World → Prop} {W : World} (hgd : o.guard = none) (s x : Operand)
    (ho : o.op = .call { callee := .builtin .append, args := #[s, x], argTypes := #[34, 34] }) (base : Nat) (v : Value) (k : Nat) (l : List Int) (z : Int) (ad : Addr)
    (hs : a.eval s = v) (hown : W.ownsRow base 3 1 v k (ints l)) (hx : a.eval x = .slice (some ad) 1 1) (had : W.cell? ad = some (.int .i64 z)) (hk : k < 1000000000000) (hb : base ≤ W.heap.size)
    (h : ∀ v' w', w'.ownsRow base 3 1 v' (k + 1) (ints (l ++ [z])) → Below base W w' → wpList Tryd.prog ops Q rest (a.put o.dst v') w') :
    wpList Tryd.prog ops Q (o :: rest) a W := by
  obtain ⟨v', w', hr, h1, h2, _⟩ := run_app_int base v k l z o.type W hown ad had hk hb
  refine wpList_plain hgd fun K hK' => ?_
  unfold Oper.wp execOp
  simp only [ho, resolve, invoke, builtin, Sem.run_bind, Sem.run_pure, Result.andThen_ok, List.map_toArray, List.map_cons, List.map_nil, hs, hx, hr]
  exact hK' _ _ (h v' w' h1 ((Below.refl base W).grown h2 hb (fun g hg => (hown.lt g hg).1)))

theorem own_base {w : World} {base base' size n : Nat} {e : TypeId} {v : Value} {xs : List Value} (h : w.ownsRow base e size v n xs) (hb : base' ≤ base) : w.ownsRow base' e size v n xs :=
  ⟨h.1, by
    rcases h.2 with h' | ⟨g', cap', cur', e', hg', rest⟩
    · exact .inl h'
    · exact .inr ⟨g', cap', cur', e', Nat.le_trans hb hg', rest⟩⟩

end Go.Proofs.YthlkbkomecnbaaaDoor
namespace Go.Proofs.YthlkbkomecnbaaaDoor
open Go.RowKit

theorem ints_one (l : List Int) : ∀ u ∈ ints l, u.oneCell' = true := by
  intro u hu
  unfold ints at hu
  obtain ⟨x, _, rfl⟩ := List.mem_map.1 hu
  rfl
theorem ints_app (l m : List Int) : ints (l ++ m) = ints l ++ ints m := by unfold ints; rw [List.map_append]

/-- 'append(v, xs...)' onto a row of numbers of the call's own. -/
theorem run_app_ints (base : Nat) (v : Value) (k : Nat) (l m : List Int) (c : Nat) (ty : TypeId) (W : World) (hown : W.ownsRow base 3 1 v k (ints l)) (ad : Addr) (hm : ∀ j u, (ints m)[j]? = some u → W.cell? (ad.add j) = some u) (hk : k + m.length < 1000000000000) (hb : base ≤ W.heap.size) :
    ∃ v' w', (Builtin.append_ #[34, 34] ty #[v, .slice (some ad) m.length c]).run Tryd.prog W = .ok v' w' ∧ w'.ownsRow base 3 1 v' (k + m.length) (ints (l ++ m)) ∧ W.grownBy w' v.ownBlock := by
  obtain ⟨v', w', hrun, h1, h2, _⟩ := run_append_own (P := Tryd.prog) W base 34 ty 3 intRow (.int .i64 0) 1 8 Tryd.underlying34 int_row.1 int_row.2.1 int_row.2.2.1 int_row.2.2.2 rfl (by decide) v k _ hown ad m.length c (ints m) (by rw [len_ints]; omega) hm (ints_one m) (by unfold maxLen; omega) (by omega) hb
  exact ⟨v', w', hrun, by rw [ints_app]; exact h1, h2⟩

theorem app_ints_at {ops : Array Oper} {rest : List Oper} {o : Oper} {a : Act} {Q : Exit → Act → World → Prop} {W : World} (hgd : o.guard = none) (s x : Operand)
    (ho : o.op = .call { callee := .builtin .append, args := #[s, x], argTypes := #[34, 34] }) (base : Nat) (v : Value) (k : Nat) (l m : List Int) (c n : Nat) (ad : Addr)
    (hs : a.eval s = v) (hown : W.ownsRow base 3 1 v k (ints l)) (hx : a.eval x = .slice (some ad) n c) (hn : m.length = n) (hm : ∀ j u, (ints m)[j]? = some u → W.cell? (ad.add j) = some u) (hk : k + n < 1000000000000) (hb : base ≤ W.heap.size)
    (h : ∀ v' w', w'.ownsRow base 3 1 v' (k + n) (ints (l ++ m)) → Below base W w' → wpList Tryd.prog ops Q rest (a.put o.dst v') w') :
    wpList Tryd.prog ops Q (o :: rest) a W := by
  subst hn
  obtain ⟨v', w', hr, h1, h2⟩ := run_app_ints base v k l m c o.type W hown ad hm hk hb
  refine wpList_plain hgd fun K hK' => ?_
  unfold Oper.wp execOp
  simp only [ho, resolve, invoke, builtin, Sem.run_bind, Sem.run_pure, Result.andThen_ok, List.map_toArray, List.map_cons, List.map_nil, hs, hx, hr]
  exact hK' _ _ (h v' w' h1 ((Below.refl base W).grown h2 hb (fun g hg => (hown.lt g hg).1)))

end Go.Proofs.YthlkbkomecnbaaaDoor
