/- Diagrams in memory: rows of forks that grow, forks that are compared, maps keyed by forks and by operations, and the maker's words. -/
import Derived.Test.YtnhjcokmajejcaaDoorDgP
import Derived.Test.YtnhjcokmajejcaaDoorGen
import Derived.Laws.StructEq
import Derived.Deep.AppendLies
namespace Go.Proofs.YtnhjcokmajejcaaDoor
open Go.RowKit
set_option maxRecDepth 100000

theorem fl_fk_snoc (l : List Fk) (x : Fk) : fl (l ++ [x]) = fl l ++ x.cs := by
  unfold fl
  rw [List.length_append]
  show cat _ (l.length + 1) = _
  rw [cat_succ, el_last]
  congr 1
  exact cat_congr fun k hk => by rw [el_left hk]
theorem fk_one (x : Fk) : ∀ u ∈ x.cs, u.oneCell' = true := by
  intro u h
  simp [Fk.cs] at h
  rcases h with rfl | rfl | rfl <;> rfl
/-- 'append(v, x)' onto a row of forks of the call's own. -/
theorem run_app_fk (base : Nat) (v : Value) (k : Nat) (l : List Fk) (x : Fk) (ty : TypeId) (W : World) (hown : W.ownsRow base 108 3 v k (fl l)) (ad : Addr) (hm : ∀ j u, x.cs[j]? = some u → W.cell? (ad.add j) = some u) (hk : k < 1000000000) (hb : base ≤ W.heap.size) :
    ∃ v' w', (Builtin.append_ #[33, 33] ty #[v, .slice (some ad) 1 1]).run Tryd.prog W = .ok v' w' ∧ w'.ownsRow base 108 3 v' (k + 1) (fl (l ++ [x])) ∧ W.grownBy w' v.ownBlock ∧ (v'.ownBlock = v.ownBlock ∨ v'.ownBlock = some W.heap.size) := by
  obtain ⟨v', w', hrun, h1, h2, _, h4⟩ := run_append_own_at (P := Tryd.prog) W base 33 ty 108 fkRow (.agg #[.int .i64 0, .int .i64 0, .int .i64 0]) 3 24 Tryd.underlying33 fk_row.1 fk_row.2.1 fk_row.2.2.1 fk_row.2.2.2 rfl (by decide) v k _ hown ad 1 1 x.cs rfl hm (fk_one x) (by unfold maxLen; omega) (by omega) hb
  refine ⟨v', w', hrun, by rw [fl_fk_snoc]; exact h1, h2, ?_⟩
  rcases h4 with h | h
  · exact .inl h
  · exact .inr h
/-- What was in the row v of k forks, and in all other blocks, is as it was. -/
def KeptD (w w' : World) (v : Value) (k : Nat) : Prop := ∀ b j, b < w.heap.size → (v.ownBlock = some b → j < k * 3) → w'.cell? ⟨b, j, none⟩ = w.cell? ⟨b, j, none⟩
section
variable {w w' w1 w2 : World} {v v1 : Value} {k k1 : Nat}
theorem KeptD.of_below (h : Below w.heap.size w w') (v : Value) (k : Nat) : KeptD w w' v k := fun b _j hb _ => World.cell?_of_block (w := w) (h.block b hb)
theorem KeptD.trans (h : KeptD w w1 v k) (g : KeptD w1 w2 v1 k1) (hs : w.heap.size ≤ w1.heap.size) (hk : k ≤ k1) (hv : ∀ x, v1.ownBlock = some x → v.ownBlock = some x ∨ w.heap.size ≤ x) : KeptD w w2 v k := fun b j hb hj => by
  refine (g b j (by omega) fun e => ?_).trans (h b j hb hj)
  rcases hv b e with q | q
  · have := hj q
    have := Nat.mul_le_mul_right 3 hk
    omega
  · omega
theorem KeptD.below (h : KeptD w w1 v k) (g : Below w1.heap.size w1 w2) (hs : w.heap.size ≤ w1.heap.size) : KeptD w w2 v k := fun b j hb hj => (World.cell?_of_block (w := w1) (g.block b (by omega))).trans (h b j hb hj)
theorem KeptD.set (h : KeptD w w1 v k) {p : Addr} (u : Value) (hp : w.heap.size ≤ p.block) : KeptD w (w1.setCell p u) v k := fun b j hb hj => (World.cell?_of_block (w := w1) (setCell_heap _ _ _ (by show b ≠ p.block; omega))).trans (h b j hb hj)
end
/-- 'append(v, x)' onto a row of forks: the row's old cells stay. -/
theorem run_app_fk_kept (base : Nat) (v : Value) (k : Nat) (l : List Fk) (x : Fk) (ty : TypeId) (W : World) (hown : W.ownsRow base 108 3 v k (fl l)) (ad : Addr) (hm : ∀ j u, x.cs[j]? = some u → W.cell? (ad.add j) = some u) (hk : k < 1000000000) (hb : base ≤ W.heap.size) :
    ∃ v' w', (Builtin.append_ #[33, 33] ty #[v, .slice (some ad) 1 1]).run Tryd.prog W = .ok v' w' ∧ w'.ownsRow base 108 3 v' (k + 1) (fl (l ++ [x])) ∧ W.grownBy w' v.ownBlock ∧ (v'.ownBlock = v.ownBlock ∨ v'.ownBlock = some W.heap.size) ∧ KeptD W w' v k := by
  obtain ⟨v', w', hrun, h1, h2, h4⟩ := run_app_fk base v k l x ty W hown ad hm hk hb
  refine ⟨v', w', hrun, h1, h2, h4, fun b j hbl hj => ?_⟩
  rcases hown.2 with ⟨rfl, rfl⟩ | ⟨g, cap, cur, rfl, hbg, hg, hnc, hcm, hcs, htake⟩
  · exact World.cell?_of_block (w := W) (h2.block b hbl (by simp [Value.ownBlock]))
  · by_cases e : b = g
    · subst e
      have hjk : j < k * 3 := hj (by simp [Value.ownBlock])
      by_cases hroom : k + 1 ≤ cap
      · have hr := run_append_room (P := Tryd.prog) W 33 ty 108 fkRow Tryd.underlying33 fk_row.1 b k cap cur hg ad 1 1 x.cs (by rw [fk_row.2.2.1]; rfl) hm (fk_one x) hroom (by rw [fk_row.2.2.1]; simp [Fk.cs]; omega)
        have hr' := hrun.symm.trans hr
        injection hr' with _ hw
        subst hw
        rw [cell_of_row _ b j _ 108 (0, 0) (setRow_heap W b cur _ _ _ hg), cell_of_row W b j cur 108 (0, 0) hg]
        rw [fk_row.2.2.1]
        have hs : j < cur.size := by omega
        simp [hs]
        rw [List.getElem?_append_left (by simp; omega)]
        simp [hjk, hs]
      · have holds : ∀ j u, (fl l)[j]? = some u → W.cell? ((⟨b, 0, none⟩ : Addr).add j) = some u := hown.cells (g := b) rfl
        have hr := run_append_grow (P := Tryd.prog) W 33 ty 108 fkRow (.agg #[.int .i64 0, .int .i64 0, .int .i64 0]) Tryd.underlying33 fk_row.1 fk_row.2.1 ⟨b, 0, none⟩ k cap (fl l) (by rw [fk_row.2.2.1]; exact hown.1) holds ad 1 1 x.cs (by rw [fk_row.2.2.1]; rfl) hm (by omega) (by omega) (by rw [fk_row.2.2.2]; exact growslice_fits (by omega) (by omega))
        have hr' := hrun.symm.trans hr
        injection hr' with _ hw
        subst hw
        exact World.cell?_of_block (w := W) (Below.heap_alloc W.drew _ b hbl)
    · exact World.cell?_of_block (w := W) (h2.block b hbl (by simp [Value.ownBlock, e]))
theorem step_app_fk {ops : Array Oper} {o : Oper} {a : Act} {K : Act → World → Prop} {Q : Exit → Act → World → Prop} {E : Prop} {W : World} (hgd : o.guard = none) (s x : Operand)
    (ho : o.op = .call { callee := .builtin .append, args := #[s, x], argTypes := #[33, 33] }) (base : Nat) (v : Value) (k : Nat) (l : List Fk) (z : Fk) (g : Nat)
    (hs : a.eval s = v) (hown : W.ownsRow base 108 3 v k (fl l)) (hx : a.eval x = .slice (some ⟨g, 0, none⟩) 1 1) (hz : Blk W g 108 z.cs) (hk : k < 1000000000) (hb : base ≤ W.heap.size)
    (h : ∀ A' c' w', w'.ownsRow base 108 3 (.slice A' (k + 1) c') (k + 1) (fl (l ++ [z])) → W.grownBy w' v.ownBlock → ((Value.slice A' (k + 1) c').ownBlock = v.ownBlock ∨ (Value.slice A' (k + 1) c').ownBlock = some W.heap.size) → K (a.put o.dst (.slice A' (k + 1) c')) w') :
    if Region.wanted o (yielded ops a.tmps) = true then Oper.wp Tryd.prog o a W K Q else E := by
  have hw : Region.wanted o (yielded ops a.tmps) = true := by simp [Region.wanted, hgd]
  rw [if_pos hw]
  obtain ⟨v', w', hr, q1, q2, q3⟩ := run_app_fk base v k l z o.type W hown ⟨g, 0, none⟩ (by
    intro j u hu
    rw [cell_at, hz.cell j]; exact hu) hk hb
  obtain ⟨A', c', rfl⟩ := row_slice q1
  unfold Oper.wp execOp
  simp only [ho, resolve, invoke, builtin, Sem.run_bind, Sem.run_pure, Result.andThen_ok, List.map_toArray, List.map_cons, List.map_nil, hs, hx, hr]
  exact h A' c' w' q1 q2 q3
theorem app_fk_at {ops : Array Oper} {rest : List Oper} {o : Oper} {a : Act} {Q : Exit → Act → World → Prop} {W : World} (hgd : o.guard = none) (s x : Operand)
    (ho : o.op = .call { callee := .builtin .append, args := #[s, x], argTypes := #[33, 33] }) (base : Nat) (v : Value) (k : Nat) (l : List Fk) (z : Fk) (g : Nat)
    (hs : a.eval s = v) (hown : W.ownsRow base 108 3 v k (fl l)) (hx : a.eval x = .slice (some ⟨g, 0, none⟩) 1 1) (hz : Blk W g 108 z.cs) (hk : k < 1000000000) (hb : base ≤ W.heap.size)
    (h : ∀ A' c' w', w'.ownsRow base 108 3 (.slice A' (k + 1) c') (k + 1) (fl (l ++ [z])) → W.grownBy w' v.ownBlock → ((Value.slice A' (k + 1) c').ownBlock = v.ownBlock ∨ (Value.slice A' (k + 1) c').ownBlock = some W.heap.size) → KeptD W w' v k → wpList Tryd.prog ops Q rest (a.put o.dst (.slice A' (k + 1) c')) w') :
    wpList Tryd.prog ops Q (o :: rest) a W := by
  obtain ⟨v', w', hr, q1, q2, q3, q4⟩ := run_app_fk_kept base v k l z o.type W hown ⟨g, 0, none⟩ (by
    intro j u hu
    rw [cell_at, hz.cell j]; exact hu) hk hb
  obtain ⟨A', c', rfl⟩ := row_slice q1
  refine wpList_plain hgd fun K hK' => ?_
  unfold Oper.wp execOp
  simp only [ho, resolve, invoke, builtin, Sem.run_bind, Sem.run_pure, Result.andThen_ok, List.map_toArray, List.map_cons, List.map_nil, hs, hx, hr]
  exact hK' _ _ (h A' c' w' q1 q2 q3 q4)
theorem rd_forks {w : World} {base n c : Nat} {t : TypeId} {A : Option Addr} {l : List Fk} (h : w.ownsRow base t 3 (.slice A n c) n (fl l)) (hl : l.length = n) (hn : n ≤ 1000000) : Mem.rd w w.heap.size [.slice A n c] l :=
  rd_flat.2 ⟨by unfold maxLen; omega, hl, Rd.of_own h⟩
theorem rd_kept {w w' : World} {base n c : Nat} {A : Option Addr} {l : List Fk} (h : w.ownsRow base 108 3 (.slice A n c) n (fl l)) (hl : l.length = n) (hn : n ≤ 1000000) (k : KeptD w w' (.slice A n c) n) (hs : w.heap.size ≤ w'.heap.size) : Mem.rd w' w'.heap.size [.slice A n c] l := by
  refine rd_flat.2 ⟨by unfold maxLen; omega, hl, h.1, fun h0 => ?_⟩
  rcases h.2 with ⟨hv, hz⟩ | ⟨g, cap, cur, hv, hbg, hg, hnc, hcm, hcs, htake⟩
  · omega
  · have hvo : (Value.slice A n c).ownBlock = some g := by rw [hv]; rfl
    injection hv with hA _ _
    subst hA
    have hgs : g < w.heap.size := (Array.getElem?_eq_some_iff.1 hg).1
    refine ⟨⟨g, 0, none⟩, rfl, by show g < _; omega, fun j u hu => ?_⟩
    have hcell := h.cells (g := g) hvo j u hu
    rw [cell_at] at hcell ⊢
    rw [k g j hgs (fun _ => by
      have := (List.getElem?_eq_some_iff.1 hu).1
      rw [h.1] at this; exact this)]
    exact hcell
theorem take_fk {l : List Fk} {k : Nat} (h : k < l.length) : l.take (k + 1) = l.take k ++ [el l k] := take_el h
/-- Whether two forks are equal. -/
theorem run_fk_eq (a b c a' b' c' : Int) (w : World) : (Op.equalIn 10000 108 (.agg #[.int .i64 a, .int .i64 b, .int .i64 c]) (.agg #[.int .i64 a', .int .i64 b', .int .i64 c'])).run Tryd.prog w = .ok (a == a' && (b == b' && c == c')) w := by
  have u3 := Tryd.underlying3
  have a3 := Tryd.isAgg3
  have z3 := Tryd.sizeOf3
  have hS : Tryd.prog.underlying 108 = some (.struct (Tryd.prog.fieldsOf 108)) := by kernel_rfl
  have hp : Tryd.prog.stoodInHeld 108 = false := by kernel_rfl
  rw [show (10000 : Nat) = 9999 + 1 from rfl, run_equalIn_agg w 9999 108 _ _ hS hp]
  simp only [Program.fieldsOf, Tryd.underlying108]
  go_simp
  by_cases h1 : a = a' <;> by_cases h2 : b = b' <;> by_cases h3 : c = c' <;> simp [h1, h2, h3]
theorem fk_eq_no {f g : Fk} (h : f ≠ g) (w : World) : (Op.equalIn 10000 108 (.agg #[.int .i64 f.v, .int .i64 f.lo, .int .i64 f.hi]) (.agg #[.int .i64 g.v, .int .i64 g.lo, .int .i64 g.hi])).run Tryd.prog w = .ok false w := by
  rw [run_fk_eq]
  congr 1
  have := fk_ne h
  by_cases h1 : f.v = g.v <;> by_cases h2 : f.lo = g.lo <;> by_cases h3 : f.hi = g.hi <;> simp_all
theorem fk_eq_yes (f : Fk) (w : World) : (Op.equalIn 10000 108 (.agg #[.int .i64 f.v, .int .i64 f.lo, .int .i64 f.hi]) (.agg #[.int .i64 f.v, .int .i64 f.lo, .int .i64 f.hi])).run Tryd.prog w = .ok true w := by
  rw [run_fk_eq]
  simp

/-! ### Maps with numbers as values -/
section
variable {k : TypeId}
theorem mp_of_heap {w w' : World} {b n : Nat} {D : DataW Unit} (h : w.ownsMap Tryd.prog k (plainElem Tryd.prog 3) b n D) (e : w'.heap = w.heap) : w'.ownsMap Tryd.prog k (plainElem Tryd.prog 3) b n D := by
  obtain ⟨es, clock, hb, r⟩ := h
  exact ⟨es, clock, by rw [e]; exact hb, r⟩
theorem mp_below {w w' : World} {b n : Nat} {D : DataW Unit} (h : w.ownsMap Tryd.prog k (plainElem Tryd.prog 3) b n D) (hb : Below w.heap.size w w') : w'.ownsMap Tryd.prog k (plainElem Tryd.prog 3) b n D :=
  h.kept (row := none) ⟨hb.os, hb.tape, hb.output, hb.size, fun i hi _ => hb.block i hi⟩ (by simp)
theorem mp_on {W w w' : World} {row : Option Nat} {b n : Nat} {D : DataW Unit} (hg : W.grownBy w' row) (h : w.ownsMap Tryd.prog k (plainElem Tryd.prog 3) b n D) (e : W.heap = w.heap) (hne : row ≠ some b) : w'.ownsMap Tryd.prog k (plainElem Tryd.prog 3) b n D :=
  (mp_of_heap h e).kept hg (fun q => hne q.symm)
theorem rw_on {W w w' : World} {row : Option Nat} {base size k : Nat} {t : TypeId} {v : Value} {xs : List Value} (hg : W.grownBy w' row) (h : w.ownsRow base t size v k xs) (e : W.heap = w.heap) (hne : v.ownBlock ≠ row) : w'.ownsRow base t size v k xs :=
  (own_of_heap h e).kept hg (.inr hne)
theorem int_zero (w : World) : (zeroValue 3).run Tryd.prog w = .ok (.int .i64 0) w := by kernel_rfl
/-- What a look-up tells, in whatever world that has the map's block. -/
theorem mp_look {w : World} {b n : Nat} {D : DataW Unit} (h : w.ownsMap Tryd.prog k (plainElem Tryd.prog 3) b n D) (law : Maps.Keyed Tryd.prog k) {mt : TypeId} (hm : Tryd.prog.underlying mt = some (.map k 3)) {key : Value} {kl : Lit} (hk : keyOf Tryd.prog k key = some kl) :
    ∃ v : Int, D.atKey kl (.lit (.int .i64 0)) = .lit (.int .i64 v) ∧ ∀ W, W.heap = w.heap → (Instr.lookup mt (.map (some b)) key true).run Tryd.prog W = .ok (.tuple #[.int .i64 v, .bool (Maps.has D kl)]) W := by
  have hw0 : (Lit.int .i64 0).wf = true := by decide
  have one : ∀ W, W.heap = w.heap → ∃ v : Int, D.atKey kl (.lit (.int .i64 0)) = .lit (.int .i64 v) ∧ (Instr.lookup mt (.map (some b)) key true).run Tryd.prog W = .ok (.tuple #[.int .i64 v, .bool (Maps.has D kl)]) W := fun W hW => by
    obtain ⟨v, ps, hrun, hv⟩ := (mp_of_heap h hW).look_ok law hm (int_zero W) (plainElem_int Tryd.underlying3 hw0) hk
    obtain ⟨z, rfl, hz, _⟩ := plainElem_int_inv Tryd.underlying3 hv
    exact ⟨z, congrArg Prod.fst hz, hrun⟩
  obtain ⟨v, hv, _⟩ := one w rfl
  refine ⟨v, hv, fun W hW => ?_⟩
  obtain ⟨v', hv', hr⟩ := one W hW
  rw [hv] at hv'
  injection hv' with hv'
  injection hv' with _ hv'
  rw [hv']; exact hr
end

/-! ### Keys -/
theorem fk_law : Maps.Keyed Tryd.prog 108 := Maps.Keyed.of_law (deep_law_laid Tryd.laidOut (m := 2) (by omega) (of_decide_eq_true (by kernel_rfl)) (by kernel_rfl) (by rw [Tryd.underlying108]))
theorem op_law : Maps.Keyed Tryd.prog 145 := Maps.Keyed.of_law (deep_law_laid Tryd.laidOut (m := 2) (by omega) (of_decide_eq_true (by kernel_rfl)) (by kernel_rfl) (by rw [Tryd.underlying145]))
theorem types_succ : ∃ m, Tryd.prog.types.size = m + 1 := ⟨Tryd.prog.types.size - 1, by have : 3 < Tryd.prog.types.size := of_decide_eq_true (by kernel_rfl); omega⟩
/-- A small number. -/
def sml (n : Int) : Prop := 0 ≤ n ∧ n < 1000000000
theorem fk_key {a b c : Int} (ha : sml a) (hb : sml b) (hc : sml c) : ∃ kl, keyOf Tryd.prog 108 (.agg #[.int .i64 a, .int .i64 b, .int .i64 c]) = some kl := by
  have ha := int_wf ha.1 ha.2
  have hb := int_wf hb.1 hb.2
  have hcc := int_wf hc.1 hc.2
  have hk : Tryd.prog.keyType 108 = true := by kernel_rfl
  have hc : Tryd.prog.cellsOf 108 = 3 := by kernel_rfl
  have hc1 : Tryd.prog.cellsOf 3 = 1 := by kernel_rfl
  obtain ⟨m, hm⟩ := types_succ
  have hl : Tryd.prog.keyLits (Tryd.prog.types.size + 1) 108 [.int .i64 a, .int .i64 b, .int .i64 c] = some [.int .i64 a, .int .i64 b, .int .i64 c] := by
    rw [hm]
    simp [Program.keyLits, Tryd.underlying108, Tryd.underlying3, hc, hc1, ha, hb, hcc]
  have hf : (Value.agg #[.int .i64 a, .int .i64 b, .int .i64 c]).formed Tryd.prog 108 = true := by simp [Value.formed, Tryd.underlying108, hc]
  refine ⟨.string (keyBytes [.int .i64 a, .int .i64 b, .int .i64 c]), ?_⟩
  unfold keyOf
  rw [Tryd.underlying108]
  dsimp only
  rw [hk, hf]
  simp only [Bool.and_self, if_true]
  rw [show (Value.agg #[.int .i64 a, .int .i64 b, .int .i64 c]).cells.toList = [.int .i64 a, .int .i64 b, .int .i64 c] from rfl, hl]
  rfl
theorem op_key {a b c : Int} (ha : sml a) (hb : sml b) (hc : sml c) : ∃ kl, keyOf Tryd.prog 145 (.agg #[.int .i64 a, .int .i64 b, .int .i64 c]) = some kl := by
  have ha := int_wf ha.1 ha.2
  have hb := int_wf hb.1 hb.2
  have hcc := int_wf hc.1 hc.2
  have hk : Tryd.prog.keyType 145 = true := by kernel_rfl
  have hc : Tryd.prog.cellsOf 145 = 3 := by kernel_rfl
  have hc1 : Tryd.prog.cellsOf 3 = 1 := by kernel_rfl
  obtain ⟨m, hm⟩ := types_succ
  have hl : Tryd.prog.keyLits (Tryd.prog.types.size + 1) 145 [.int .i64 a, .int .i64 b, .int .i64 c] = some [.int .i64 a, .int .i64 b, .int .i64 c] := by
    rw [hm]
    simp [Program.keyLits, Tryd.underlying145, Tryd.underlying3, hc, hc1, ha, hb, hcc, List.range_succ]
  have hf : (Value.agg #[.int .i64 a, .int .i64 b, .int .i64 c]).formed Tryd.prog 145 = true := by simp [Value.formed, Tryd.underlying145, hc]
  refine ⟨.string (keyBytes [.int .i64 a, .int .i64 b, .int .i64 c]), ?_⟩
  unfold keyOf
  rw [Tryd.underlying145]
  dsimp only
  rw [hk, hf]
  simp only [Bool.and_self, if_true]
  rw [show (Value.agg #[.int .i64 a, .int .i64 b, .int .i64 c]).cells.toList = [.int .i64 a, .int .i64 b, .int .i64 c] from rfl, hl]
  rfl
theorem agg3_inj {a b c a' b' c' : Int} (h : Value.agg #[.int .i64 a, .int .i64 b, .int .i64 c] = .agg #[.int .i64 a', .int .i64 b', .int .i64 c']) : a = a' ∧ b = b' ∧ c = c' := by
  simp at h
  exact h

/-- The map of places tells of each fork where it is. -/
structure FitP (D : DataW Unit) (d : Dg) : Prop where
  isMap : Maps.IsMap D
  has : ∀ f : Fk, ∀ kl, keyOf Tryd.prog 108 (.agg #[.int .i64 f.v, .int .i64 f.lo, .int .i64 f.hi]) = some kl → Maps.has D kl = (fkB d.forks f).isSome
  at_ : ∀ f : Fk, ∀ kl i, keyOf Tryd.prog 108 (.agg #[.int .i64 f.v, .int .i64 f.lo, .int .i64 f.hi]) = some kl → fkB d.forks f = some i → D.atKey kl (.lit (.int .i64 0)) = .lit (.int .i64 (2 + i))
theorem fitP_nil (m : Int) : FitP (.map []) ⟨m, []⟩ := ⟨Maps.isMap_empty, fun f kl _ => by simp [Maps.has_eq, fkB, fkTo], fun f kl i _ h => by cases h⟩
theorem fitP_new {D : DataW Unit} {d : Dg} {f : Fk} {kl : Lit} (h : FitP D d) (e : fkB d.forks f = none) (hk : keyOf Tryd.prog 108 (.agg #[.int .i64 f.v, .int .i64 f.lo, .int .i64 f.hi]) = some kl) :
    FitP (D.put kl (.lit (.int .i64 (2 + d.forks.length)))) ⟨d.vars, d.forks ++ [f]⟩ := by
  have hkl := fk_law.key hk
  have same : ∀ f' : Fk, ∀ kl', keyOf Tryd.prog 108 (.agg #[.int .i64 f'.v, .int .i64 f'.lo, .int .i64 f'.hi]) = some kl' → (kl' = kl ↔ f = f') := fun f' kl' hk' => by
    constructor
    · rintro rfl
      obtain ⟨e1, e2, e3⟩ := agg3_inj (fk_law.inj hk' hk)
      exact fk_ext ⟨e1.symm, e2.symm, e3.symm⟩
    · rintro rfl
      rw [hk] at hk'; injection hk' with hk'; exact hk'.symm
  have some1 : ∀ f', fkB (d.forks ++ [f]) f' = match fkB d.forks f' with | some i => some i | none => if f.v = f'.v ∧ f.lo = f'.lo ∧ f.hi = f'.hi then some d.forks.length else none := fun f' => fkB_snoc
  refine ⟨h.isMap.put _ _, fun f' kl' hk' => ?_, fun f' kl' j hk' hj => ?_⟩
  · show _ = (fkB (d.forks ++ [f]) f').isSome
    rw [some1]
    by_cases q : kl' = kl
    · have q2 := (same f' kl' hk').1 q
      subst q
      subst q2
      rw [Maps.has_put_same h.isMap hkl, e]
      dsimp only
      rw [if_pos ⟨rfl, rfl, rfl⟩]; rfl
    · rw [Maps.has_put_other q, h.has f' kl' hk']
      cases z : fkB d.forks f' with
      | some j => rfl
      | none =>
        dsimp only
        rw [if_neg (fun r => q ((same f' kl' hk').2 (fk_ext r)))]
  · have hj : fkB (d.forks ++ [f]) f' = some j := hj
    rw [some1] at hj
    by_cases q : kl' = kl
    · have q2 := (same f' kl' hk').1 q
      subst q
      subst q2
      rw [e] at hj
      dsimp only at hj
      rw [if_pos ⟨rfl, rfl, rfl⟩] at hj
      injection hj with hj
      subst hj
      rw [Maps.atKey_put_same h.isMap hkl]
    · rw [Maps.atKey_put_other q]
      cases z : fkB d.forks f' with
      | some k =>
        rw [z] at hj
        injection hj with hj
        subst hj
        exact h.at_ f' kl' k hk' z
      | none =>
        rw [z] at hj
        dsimp only at hj
        rw [if_neg (fun r => q ((same f' kl' hk').2 (fk_ext r)))] at hj
        cases hj

/-- What is known of a place that an operation has made. -/
def memo (d : Dg) (full : Bool) (op a b n : Int) : Prop :=
  isP d n = true ∧ (full = false → fitA d op a b ∧ ∀ k : Nat, d.vars - rk d op a b < k → runF op k d a b = (d, n))
/-- The map of results tells what operations made. -/
structure FitR (D : DataW Unit) (d : Dg) (full : Bool) : Prop where
  isMap : Maps.IsMap D
  val : ∀ op a b kl, keyOf Tryd.prog 145 (.agg #[.int .i64 op, .int .i64 a, .int .i64 b]) = some kl → Maps.has D kl = true → ∃ n, D.atKey kl (.lit (.int .i64 0)) = .lit (.int .i64 n) ∧ memo d full op a b n
theorem fitR_nil (d : Dg) (full : Bool) : FitR (.map []) d full := ⟨Maps.isMap_empty, fun op a b kl _ h => by simp [Maps.has_eq] at h⟩
theorem memo_ext {d d' : Dg} {op a b n : Int} (ok : d.Ok) (E : Ext d d') (h : memo d false op a b n) (full : Bool) : memo d' full op a b n := by
  obtain ⟨p, h⟩ := h
  obtain ⟨g, h⟩ := h rfl
  refine ⟨E.isP p, fun _ => ⟨g.ext E, fun k hk => ?_⟩⟩
  rw [rk_ext g E, E.vars] at hk
  have hr := h k hk
  have hp := isP_iff.1 p
  have := run_ext (d' := d') ok g hk (by rw [hr]; exact hp.1) (by rw [hr]; exact E)
  rw [this, hr]
theorem fitR_ext {D : DataW Unit} {d d' : Dg} (ok : d.Ok) (E : Ext d d') (h : FitR D d false) (full : Bool) : FitR D d' full :=
  ⟨h.isMap, fun op a b kl hk hh => by
    obtain ⟨n, e, m⟩ := h.val op a b kl hk hh
    exact ⟨n, e, memo_ext ok E m full⟩⟩
theorem fitR_full {D : DataW Unit} {d : Dg} {full : Bool} (h : FitR D d full) : FitR D d true :=
  ⟨h.isMap, fun op a b kl hk hh => by
    obtain ⟨n, e, m⟩ := h.val op a b kl hk hh
    exact ⟨n, e, m.1, fun q => by cases q⟩⟩
theorem fitR_new {D : DataW Unit} {d : Dg} {full : Bool} {op a b n : Int} {kl : Lit} (h : FitR D d full) (hk : keyOf Tryd.prog 145 (.agg #[.int .i64 op, .int .i64 a, .int .i64 b]) = some kl) (m : memo d full op a b n) :
    FitR (D.put kl (.lit (.int .i64 n))) d full := by
  have hkl := op_law.key hk
  refine ⟨h.isMap.put _ _, fun op' a' b' kl' hk' hh => ?_⟩
  by_cases q : kl' = kl
  · subst q
    obtain ⟨rfl, rfl, rfl⟩ := agg3_inj (op_law.inj hk' hk)
    exact ⟨n, Maps.atKey_put_same h.isMap hkl _ _, m⟩
  · rw [Maps.has_put_other q] at hh
    obtain ⟨n', e, m'⟩ := h.val op' a' b' kl' hk' hh
    exact ⟨n', by rw [Maps.atKey_put_other q]; exact e, m'⟩

/-- A maker at block g: the diagram that it has made, whether it was full, and how many results there are at most. -/
structure MkD (w : World) (base g : Nat) (d : Dg) (full : Bool) (m : Nat) : Prop where
  ok : d.Ok
  full_ : full = true → 2000 ≤ d.forks.length
  mem : ∃ A cc bp cp Dp br cr Dr, Blk w g 122 [.int .i64 d.vars, .slice A d.forks.length cc, .map (some bp), .map (some br), .bool full] ∧ w.ownsRow base 108 3 (.slice A d.forks.length cc) d.forks.length (fl d.forks) ∧
    w.ownsMap Tryd.prog 108 (plainElem Tryd.prog 3) bp cp Dp ∧ cp ≤ d.forks.length ∧ FitP Dp d ∧
    w.ownsMap Tryd.prog 145 (plainElem Tryd.prog 3) br cr Dr ∧ cr ≤ m ∧ FitR Dr d full ∧
    (base ≤ g ∧ base ≤ bp ∧ base ≤ br ∧ g ≠ bp ∧ g ≠ br ∧ bp ≠ br) ∧ ∀ b ∈ bl (.slice A d.forks.length cc), b ≠ g ∧ b ≠ bp ∧ b ≠ br
theorem mkD_below {w w' : World} {base g : Nat} {d : Dg} {full : Bool} {m : Nat} (h : MkD w base g d full m) (hb : Below w.heap.size w w') : MkD w' base g d full m := by
  obtain ⟨A, cc, bp, cp, Dp, br, cr, Dr, kg, ho, hp, c1, f1, hr, c2, f2, r⟩ := h.mem
  exact ⟨h.ok, h.full_, A, cc, bp, cp, Dp, br, cr, Dr, kg.below hb kg.lt, own_below ho hb, mp_below hp hb, c1, f1, mp_below hr hb, c2, f2, r⟩
theorem mkD_of_heap {w w' : World} {base g : Nat} {d : Dg} {full : Bool} {m : Nat} (h : MkD w base g d full m) (e : w'.heap = w.heap) : MkD w' base g d full m := by
  obtain ⟨A, cc, bp, cp, Dp, br, cr, Dr, kg, ho, hp, c1, f1, hr, c2, f2, r⟩ := h.mem
  exact ⟨h.ok, h.full_, A, cc, bp, cp, Dp, br, cr, Dr, blk_of_heap kg e, own_of_heap ho e, mp_of_heap hp e, c1, f1, mp_of_heap hr e, c2, f2, r⟩
theorem mkD_lower {w : World} {base base' g : Nat} {d : Dg} {full : Bool} {m : Nat} (h : MkD w base g d full m) (hb : base' ≤ base) : MkD w base' g d full m := by
  obtain ⟨A, cc, bp, cp, Dp, br, cr, Dr, kg, ho, hp, c1, f1, hr, c2, f2, ⟨p1, p2, p3, p4⟩, r⟩ := h.mem
  exact ⟨h.ok, h.full_, A, cc, bp, cp, Dp, br, cr, Dr, kg, own_lower ho hb, hp, c1, f1, hr, c2, f2, ⟨by omega, by omega, by omega, p4⟩, r⟩
theorem mkD_more {w : World} {base g : Nat} {d : Dg} {full : Bool} {m m' : Nat} (h : MkD w base g d full m) (hm : m ≤ m') : MkD w base g d full m' := by
  obtain ⟨A, cc, bp, cp, Dp, br, cr, Dr, kg, ho, hp, c1, f1, hr, c2, r⟩ := h.mem
  exact ⟨h.ok, h.full_, A, cc, bp, cp, Dp, br, cr, Dr, kg, ho, hp, c1, f1, hr, Nat.le_trans c2 hm, r⟩
theorem mkD_lt {w : World} {base g : Nat} {d : Dg} {full : Bool} {m : Nat} (h : MkD w base g d full m) : g < w.heap.size ∧ base ≤ g := by
  obtain ⟨A, cc, bp, cp, Dp, br, cr, Dr, kg, ho, hp, c1, f1, hr, c2, f2, ⟨p1, p2⟩, r⟩ := h.mem
  exact ⟨kg.lt, p1⟩
/-! ### What is the maker's own -/
/-- Block b is the maker's own. -/
def mine (w : World) (g b : Nat) : Prop := b = g ∨ w.cell? ⟨g, 2, none⟩ = some (.map (some b)) ∨ w.cell? ⟨g, 3, none⟩ = some (.map (some b)) ∨ ∃ A n c, w.cell? ⟨g, 1, none⟩ = some (.slice A n c) ∧ (Value.slice A n c).ownBlock = some b
theorem mine_iff {w : World} {g b bp br n c : Nat} {t : TypeId} {A : Option Addr} {x0 x4 : Value} (k : Blk w g t [x0, .slice A n c, .map (some bp), .map (some br), x4]) : mine w g b ↔ b = g ∨ b = bp ∨ b = br ∨ (Value.slice A n c).ownBlock = some b := by
  have z1 := k.cell 1
  have z2 := k.cell 2
  have z3 := k.cell 3
  simp only [List.getElem?_cons_zero, List.getElem?_cons_succ] at z1 z2 z3
  unfold mine
  rw [z1, z2, z3]
  constructor
  · rintro (h | h | h | ⟨A', n', c', h, hb⟩)
    · exact .inl h
    · injection h with h; injection h with h; injection h with h; exact .inr (.inl h.symm)
    · injection h with h; injection h with h; injection h with h; exact .inr (.inr (.inl h.symm))
    · injection h with h; rw [h]; exact .inr (.inr (.inr hb))
  · rintro (h | h | h | h)
    · exact .inl h
    · exact .inr (.inl (by rw [h]))
    · exact .inr (.inr (.inl (by rw [h])))
    · exact .inr (.inr (.inr ⟨A, n, c, rfl, h⟩))
/-- Of what was there, only the maker's own has changed, and nothing of it has become the maker's. -/
structure Frame (g : Nat) (w w' : World) : Prop where
  size : w.heap.size ≤ w'.heap.size
  keep : ∀ b, b < w.heap.size → ¬ mine w g b → w'.heap[b]? = w.heap[b]? ∧ ¬ mine w' g b
theorem mine_heap {w w' : World} {g b : Nat} (h : w'.heap[g]? = w.heap[g]?) : mine w' g b ↔ mine w g b := by
  have e : ∀ j, w'.cell? ⟨g, j, none⟩ = w.cell? ⟨g, j, none⟩ := fun j => World.cell?_of_block (w := w) h
  unfold mine
  rw [e, e, e]
theorem Frame.of_below {g : Nat} {w w' : World} (h : Below w.heap.size w w') (hg : g < w.heap.size) : Frame g w w' :=
  ⟨h.size, fun b hb hn => ⟨h.block b hb, fun q => hn ((mine_heap (h.block g hg)).1 q)⟩⟩
theorem Frame.trans {g : Nat} {w w1 w2 : World} (h : Frame g w w1) (k : Frame g w1 w2) : Frame g w w2 :=
  ⟨Nat.le_trans h.size k.size, fun b hb hn => by
    obtain ⟨e1, n1⟩ := h.keep b hb hn
    obtain ⟨e2, n2⟩ := k.keep b (Nat.lt_of_lt_of_le hb h.size) n1
    exact ⟨e2.trans e1, n2⟩⟩
theorem frame_of {w w' : World} {g bp br n c n' c' : Nat} {t : TypeId} {A A' : Option Addr} {x0 x4 x0' x4' : Value} (k : Blk w g t [x0, .slice A n c, .map (some bp), .map (some br), x4]) (k' : Blk w' g t [x0', .slice A' n' c', .map (some bp), .map (some br), x4'])
    (hs : w.heap.size ≤ w'.heap.size) (hk : ∀ b, b < w.heap.size → b ≠ g → b ≠ bp → b ≠ br → (Value.slice A n c).ownBlock ≠ some b → w'.heap[b]? = w.heap[b]?) (hr : ∀ b, b < w.heap.size → (Value.slice A' n' c').ownBlock = some b → (Value.slice A n c).ownBlock = some b) : Frame g w w' :=
  ⟨hs, fun b hb hn => by
    rw [mine_iff k] at hn
    rw [mine_iff k']
    refine ⟨hk b hb (fun q => hn (.inl q)) (fun q => hn (.inr (.inl q))) (fun q => hn (.inr (.inr (.inl q)))) (fun q => hn (.inr (.inr (.inr q)))), ?_⟩
    rintro (q | q | q | q)
    · exact hn (.inl q)
    · exact hn (.inr (.inl q))
    · exact hn (.inr (.inr (.inl q)))
    · exact hn (.inr (.inr (.inr (hr b hb q))))⟩
theorem frame_blk {g : Nat} {w w' : World} (h : Frame g w w') {b : Nat} {t : TypeId} {cs : List Value} (k : Blk w b t cs) (hn : ¬ mine w g b) : Blk w' b t cs := (h.keep b k.lt hn).1.trans k
theorem frame_of_heap {g : Nat} {w w' w2 : World} (h : Frame g w w') (e : w2.heap = w'.heap) : Frame g w w2 :=
  ⟨by rw [e]; exact h.size, fun b hb hn => by
    obtain ⟨e1, n1⟩ := h.keep b hb hn
    exact ⟨by rw [e]; exact e1, fun q => n1 ((mine_heap (by rw [e])).1 q)⟩⟩
end Go.Proofs.YtnhjcokmajejcaaDoor
