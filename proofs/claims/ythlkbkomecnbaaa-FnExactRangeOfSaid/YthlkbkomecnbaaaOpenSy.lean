/- Opening arguments of the exact laws that are nested: what the reader trod is read by the memory's words. -/
import Derived.Test.YthlkbkomecnbaaaKinds
import Derived.ProofKit
import Derived.ChangeSame
import Derived.Deep.Slices
import Derived.Deep.Fields
import Derived.Test.YthlkbkomecnbaaaToSy
namespace Go.Proofs.Ythlkbkomecnbaaa
open Go.ChangeShapes Go.WideShapes Go.ChangeAt Go.RowKit

section
variable {H : Type} {enc : TypeId × Value → H} {P : Program}
/-- The last step of a law's row: a call that changes nothing that was there. -/
theorem post_below {f : Func} {s : ChangeSpec} {apart fresh handsOn again : Bool} {W W' : World} {args : Array Value} {v : Value} {ds gs : List (DataW H)} {before pa pv : List MemPlace}
    (hW : DataW.Whole enc P f.params.toList s.vars apart W args.toList ds gs before)
    (hres : ∀ (b : Nat) (sp : Nat → Bool) (hd : Bool), DataW.TrodAll enc P W' b sp hd f.resultTypes.toList (v.resultList f.resultTypes.size) (s.fn H (ds ++ gs)).results [])
    (hargs : ∀ sp : Nat → Bool, (∀ p ∈ before, sp p.block = true) → DataW.TrodAll enc P W' 0 sp true f.params.toList args.toList (s.fn H (ds ++ gs)).args pa)
    (hvars : ∀ sp : Nat → Bool, (∀ p ∈ before, sp p.block = true) → DataW.TrodVars enc P W' sp s.vars (s.fn H (ds ++ gs)).vars pv)
    (hps : before = pa ++ pv) (hb : Below W.heap.size W W')
    (hok : ∀ (j : Nat) (t : TypeId) (r : Value), f.resultTypes[j]? = some t → (v.resultList f.resultTypes.size)[j]? = some r → Value.okWide P W' .any 0 t r) :
    s.post enc P f apart fresh handsOn again W args v W' := by
  have hlt : ∀ p ∈ before, p.block < W.heap.size := fun p hp => hW.lt p hp
  have hold : ∀ p ∈ before, (fun b => decide (b < W.heap.size)) p.block = true := fun p hp => by simpa using hlt p hp
  refine ⟨ds, gs, before, [], pa, pv, hW, hres _ _ _, hargs _ hold, hvars _ hold, World.keptBut_mono (fun p hp => ⟨hp, ?_⟩) (hb.frame (· ∈ before)), fun _ => ?_⟩
  · rw [hps, List.mem_append] at hp
    exact Or.inr hp
  · obtain ⟨_, _, _, _, _, hz, hn⟩ := hW
    refine ⟨hok, _, _, ([] ++ pa) ++ pv, ⟨[] ++ pa, pv, trodAll_append (hargs _ (fun _ _ => rfl)) (hres _ _ _), hvars _ (fun _ _ => rfl), rfl, ?_, ?_⟩, ?_⟩
    · intro b off hp
      have hin : MemPlace.cell b off ∈ before := by rw [hps]; simpa using hp
      rw [hb.frozen (hlt _ hin)]
      exact hz b off hin
    · intro ha
      have := hn ha
      rw [hps] at this
      simpa using this
    · intro p hp _
      rw [hps]
      simpa using hp
end

end Go.Proofs.Ythlkbkomecnbaaa
namespace Go.Proofs.Ythlkbkomecnbaaa
open Go.ChangeShapes Go.WideShapes Go.ChangeAt Go.RowKit Go.Deep

theorem Try.own : ownKnob Try.prog.godebug = none := by kernel_rfl
theorem Try.laidOut : laidOutB Try.prog = true := by kernel_rfl

section
variable {H : Type} {enc : TypeId × Value → H} {P : Program} {w : World} {base : Nat} {spare : Nat → Bool} {held : Bool}

/-- A slice of structs of one-cell fields: each field's cell and its reading. -/
theorem open_slice_fields {t e : TypeId} {fs : Array Field} {fuel : Nat} {cs : List Value} {x : DataW H × List MemPlace} (ht : P.underlying t = some (.slice e)) (he : P.underlying e = some (.struct fs))
    (hone : oneCellFields P fs = true) (hC : P.cellsOf e = fs.size) (h : DataW.trod enc P w base spare held fuel t cs = some x) :
    (cs = [.slice none 0 0]) ∨
    ∃ (a : Addr) (len cap m : Nat), cs = [.slice (some a) len cap] ∧ base ≤ a.block ∧ len ≤ cap ∧ cap ≤ maxLen ∧ m = (if spare a.block then cap else len) ∧ (∀ p ∈ MemPlace.row a (m * fs.size), p ∈ x.2) ∧
      ∀ i, i < m → ∀ (j : Nat) (f : Field), fs[j]? = some f → ∃ (v : Value) (n : Nat) (y : DataW H × List MemPlace), w.cell? (a.add (i * fs.size + j)) = some v ∧ DataW.trod enc P w base spare held n f.type [v] = some y := by
  rcases open_slice ht h with ⟨h0, _⟩ | ⟨a, len, cap, m, n, D, Pl, hcs, hb, hl, hm, hmm, hx, hi⟩
  · exact .inl h0
  · refine .inr ⟨a, len, cap, m, hcs, hb, hl, hm, hmm, by rw [hC] at hx; rw [hx]; intro p hp; exact List.mem_append_left _ hp, fun i him => ?_⟩
    obtain ⟨cs', hc, ht'⟩ := hi i him
    rw [hC] at hc
    obtain ⟨ys, n', _, _, hlen, _, hf⟩ := DataW.trod_struct he ht'
    obtain ⟨_, hcl, hat⟩ := World.cells?_some hc
    intro j f hj
    obtain ⟨ho, hk⟩ := hone_of hone j f hj
    have hjl : j < fs.size := (Array.getElem?_eq_some_iff.1 hj).1
    have hcell := hat j hjl
    have hv : cs'[j]? = some (cs'[j]'(by omega)) := List.getElem?_eq_getElem (by omega)
    have h1 := hf j f hj
    rw [ho, hk] at h1
    have hone' : (cs'.drop j).take 1 = [cs'[j]'(by omega)] := by
      rw [List.drop_eq_getElem_cons (by omega)]
      rfl
    rw [hone'] at h1
    have hys : ys[j]? = some (ys[j]'(by omega)) := List.getElem?_eq_getElem (by omega)
    refine ⟨_, _, _, ?_, h1.trans hys⟩
    rw [← Go.Deep.add_add, hcell, hv]
end

section
variable {H : Type} {enc : TypeId × Value → H} {P : Program} {w : World} {base : Nat} {spare : Nat → Bool} {held : Bool}
/-- A slice of structs all fields of which are int. -/
theorem open_slice_ints {t e ti : TypeId} {fs : Array Field} {fuel : Nat} {cs : List Value} {x : DataW H × List MemPlace} (ht : P.underlying t = some (.slice e)) (he : P.underlying e = some (.struct fs)) (hti : P.underlying ti = some (.int .i64))
    (hall : fs.all (fun f => f.type == ti) = true) (hone : oneCellFields P fs = true) (hC : P.cellsOf e = fs.size) (h : DataW.trod enc P w base spare held fuel t cs = some x) :
    (cs = [.slice none 0 0]) ∨ ∃ (a : Addr) (len cap : Nat), cs = [.slice (some a) len cap] ∧ len ≤ cap ∧ cap ≤ maxLen ∧ ∀ i, i < len → ∀ j, j < fs.size → ∃ n : Int, w.cell? (a.add (i * fs.size + j)) = some (.int .i64 n) ∧ (Lit.int .i64 n).wf = true := by
  rcases open_slice_fields ht he hone hC h with h0 | ⟨a, len, cap, m, hcs, _, hl, hm, hmm, _, hf⟩
  · exact .inl h0
  · refine .inr ⟨a, len, cap, hcs, hl, hm, fun i hi j hj => ?_⟩
    have hlm : len ≤ m := by rw [hmm]; split <;> omega
    obtain ⟨u, m', y, hc, hy⟩ := hf i (by omega) j fs[j] (by simp [hj])
    have hty : fs[j].type = ti := by
      have := Array.all_eq_true.1 hall j hj
      simpa using this
    rw [hty] at hy
    obtain ⟨n, hn, _, hw⟩ := DataW.trod_int hti hy
    injection hn with hn _
    subst hn
    exact ⟨n, hc, hw⟩
end

theorem list_of {α : Type} {p : Nat → α → Prop} : ∀ n : Nat, (∀ i, i < n → ∃ t, p i t) → ∃ l : List α, l.length = n ∧ ∀ i (h : i < l.length), p i l[i]
  | 0, _ => ⟨[], rfl, fun i h => absurd h (by simp)⟩
  | n + 1, H => by
    obtain ⟨l, hl, hp⟩ := list_of n (fun i hi => H i (by omega))
    obtain ⟨t, ht⟩ := H n (by omega)
    refine ⟨l ++ [t], by simp [hl], fun i h => ?_⟩
    by_cases e : i < l.length
    · rw [List.getElem_append_left e]; exact hp i e
    · have : i = n := by simp at h; omega
      subst this
      rw [List.getElem_append_right (by omega)]
      simpa [hl] using ht

theorem slice_of_cells {A A' : Option Addr} {n n' c c' : Nat} (h : (Value.slice A n c).cells.toList = [.slice A' n' c']) : Value.slice A n c = .slice A' n' c' := by
  have e : (Value.slice A n c).cells.toList = [.slice A n c] := rfl
  exact (List.cons.inj (e.symm.trans h)).1

set_option maxRecDepth 100000 in
/-- An argument of type []laws.Term: a slice that reads as terms. -/
theorem open_terms {H : Type} {enc : TypeId × Value → H} {w : World} {v : Value} {d : DataW H} {p : List MemPlace} {sp : Nat → Bool} {held : Bool} {r : Reach} {b0 : Nat}
    (hv : Value.okWide Try.prog w r b0 56 v)
    (h : DataW.Trod enc Try.prog w 0 sp held 56 v d p) : ∃ A n c l, v = .slice A n c ∧ n ≤ maxLen ∧ Rd w w.heap.size 4 A n (tms l) := by
  obtain ⟨fuel, h⟩ := h
  obtain ⟨A0, n0, c0, rfl⟩ := okWide_slice Try.underlying56 hv
  rcases open_slice_ints Try.underlying56 Try.underlying105 Try.underlying3 (by simp) (by kernel_rfl) (by kernel_rfl) h with h0 | ⟨a, len, cap, hcs, hl, hm, hf⟩
  · exact ⟨none, 0, 0, [], slice_of_cells h0, Nat.zero_le _, Rd.nil_⟩
  · have hcs := slice_of_cells hcs
    have H1 : ∀ i, i < len → ∃ t : Tm, ∀ j u, t.cs[j]? = some u → w.cell? (a.add (i * 4 + j)) = some u := by
      intro i hi
      obtain ⟨n0, g0, _⟩ := hf i hi 0 (show 0 < 4 by omega)
      obtain ⟨n1, g1, _⟩ := hf i hi 1 (show 1 < 4 by omega)
      obtain ⟨n2, g2, _⟩ := hf i hi 2 (show 2 < 4 by omega)
      obtain ⟨n3, g3, _⟩ := hf i hi 3 (show 3 < 4 by omega)
      refine ⟨⟨n0, n1, n2, n3⟩, fun j u hu => ?_⟩
      match j, hu with
      | 0, hu => injection hu with hu; subst hu; exact g0
      | 1, hu => injection hu with hu; subst hu; exact g1
      | 2, hu => injection hu with hu; subst hu; exact g2
      | 3, hu => injection hu with hu; subst hu; exact g3
    obtain ⟨l, hll, hp⟩ := list_of len H1
    refine ⟨some a, len, cap, l, hcs, Nat.le_trans hl hm, by rw [len_tms, hll], fun hpos => ⟨a, rfl, ?_, ?_⟩⟩
    · obtain ⟨t, ht⟩ := H1 0 hpos
      have := World.block_lt_of_cell? w (a.add (0 * 4 + 0)) (ht 0 _ rfl)
      rwa [add_block] at this
    · intro j u hj
      have hjl : j < (tms l).length := (List.getElem?_eq_some_iff.1 hj).1
      rw [len_tms] at hjl
      have hk : j / 4 < l.length := by omega
      have := tms_at l (j / 4) hk (j % 4) (Nat.mod_lt _ (by omega))
      rw [show j / 4 * 4 + j % 4 = j by omega, hj] at this
      have hq := hp (j / 4) hk (j % 4) u this.symm
      rwa [show j / 4 * 4 + j % 4 = j by omega] at hq

set_option maxRecDepth 100000 in
/-- An argument of type []int. -/
theorem open_intS {H : Type} {enc : TypeId × Value → H} {w : World} {v : Value} {d : DataW H} {p : List MemPlace} {sp : Nat → Bool} {held : Bool} {r : Reach} {b0 : Nat}
    (hv : Value.okWide Try.prog w r b0 22 v)
    (h : DataW.Trod enc Try.prog w 0 sp held 22 v d p) : ∃ A n c l, v = .slice A n c ∧ n ≤ maxLen ∧ Rd w w.heap.size 1 A n (ints l) := by
  obtain ⟨fuel, h⟩ := h
  obtain ⟨A0, n0, c0, rfl⟩ := okWide_slice Try.underlying22 hv
  rcases open_ints Try.underlying22 Try.underlying3 (by kernel_rfl) h with ⟨h0, _⟩ | ⟨a, len, cap, zs, hcs, _, hl, hm, hz, _, hc, _⟩
  · exact ⟨none, 0, 0, [], slice_of_cells h0, Nat.zero_le _, Rd.nil_⟩
  · have hcs := slice_of_cells hcs
    have hlen : len ≤ zs.length := by rw [hz]; split <;> omega
    refine ⟨some a, len, cap, zs.take len, hcs, Nat.le_trans hl hm, by simp [ints]; omega, fun hpos => ⟨a, rfl, ?_, ?_⟩⟩
    · have := World.block_lt_of_cell? w (a.add 0) (hc 0 (by omega))
      rwa [add_block] at this
    · intro j u hj
      obtain ⟨hk, rfl⟩ := ints_at hj
      rw [List.length_take] at hk
      rw [hc j (by omega), List.getElem_take]
      simp [List.getD, List.getElem?_eq_getElem (show j < zs.length by omega)]
end Go.Proofs.Ythlkbkomecnbaaa
namespace Go.Proofs.Ythlkbkomecnbaaa
open Go.ChangeShapes Go.WideShapes Go.ChangeAt Go.RowKit Go.Deep

section
variable {H : Type} {enc : TypeId × Value → H} {P : Program} {w : World} {base : Nat} {spare : Nat → Bool} {held : Bool}
/-- What the reader trod at a type reads as a datum. -/
def Opens (enc : TypeId × Value → H) (P : Program) (w : World) (base : Nat) (spare : Nat → Bool) (held : Bool) (t : TypeId) (α : Type) [Mem α] : Prop :=
  ∀ fuel cs x, DataW.trod enc P w base spare held fuel t cs = some x → ∃ a : α, Mem.rd w w.heap.size cs a
theorem opens_int {t : TypeId} (ht : P.underlying t = some (.int .i64)) : Opens enc P w base spare held t Int := fun _ _ _ h => by
  obtain ⟨n, hn, _⟩ := DataW.trod_int ht h
  exact ⟨n, hn⟩
theorem opens_slice {α : Type} [Mem α] {t e : TypeId} (ht : P.underlying t = some (.slice e)) (hC : P.cellsOf e = Mem.size α) (hpos : 0 < Mem.size α) (he : Opens enc P w base spare held e α) : Opens enc P w base spare held t (List α) := fun _ cs _ h => by
  rcases open_slice ht h with ⟨rfl, _⟩ | ⟨a, len, cap, m, n, D, Pl, rfl, _, hl, hm, hmm, _, hi⟩
  · exact ⟨[], none, 0, 0, rfl, Nat.zero_le _, rfl, fun k hk => absurd hk (by omega)⟩
  · have hlm : len ≤ m := by rw [hmm]; split <;> omega
    rw [hC] at hi
    have H1 : ∀ i, i < len → ∃ d : α, ∃ ecs : List Value, ecs.length = Mem.size α ∧ (∀ j u, ecs[j]? = some u → w.cell? (a.add (i * Mem.size α + j)) = some u) ∧ Mem.rd w w.heap.size ecs d := by
      intro i hil
      obtain ⟨cs', hc, ht'⟩ := hi i (by omega)
      obtain ⟨_, hcl, hat⟩ := World.cells?_some hc
      obtain ⟨d, hd⟩ := he _ _ _ ht'
      refine ⟨d, cs', hcl, fun j u hu => ?_, hd⟩
      have hj : j < Mem.size α := by rw [← hcl]; exact (List.getElem?_eq_some_iff.1 hu).1
      rw [← Go.Deep.add_add, hat j hj, hu]
    obtain ⟨l, hll, hp⟩ := list_of len H1
    refine ⟨l, some a, len, cap, rfl, Nat.le_trans hl hm, hll, fun k hk => ?_⟩
    obtain ⟨ecs, hlen, hc, hd⟩ := hp k (by omega)
    refine ⟨a, ecs, rfl, ?_, hc, by rw [el_lt (by omega)]; exact hd⟩
    have h0 := hc 0 _ (List.getElem?_eq_getElem (by omega))
    have := World.block_lt_of_cell? w _ h0
    rwa [add_block] at this
/-- A field of a struct of one-cell fields. -/
theorem one_field {e : TypeId} {fs : Array Field} {fuel : Nat} {cs : List Value} {x : DataW H × List MemPlace} (he : P.underlying e = some (.struct fs)) (hone : oneCellFields P fs = true) (hC : P.cellsOf e = fs.size)
    (h : DataW.trod enc P w base spare held fuel e cs = some x) : cs.length = fs.size ∧ ∀ (j : Nat) (f : Field), fs[j]? = some f → ∃ v n y, cs[j]? = some v ∧ DataW.trod enc P w base spare held n f.type [v] = some y := by
  obtain ⟨ys, n', _, _, hlen, hys, hf⟩ := DataW.trod_struct he h
  rw [hC] at hlen
  refine ⟨hlen, fun j f hj => ?_⟩
  obtain ⟨ho, hk⟩ := hone_of hone j f hj
  have hjl : j < fs.size := (Array.getElem?_eq_some_iff.1 hj).1
  have h1 := hf j f hj
  rw [ho, hk] at h1
  have hone' : (cs.drop j).take 1 = [cs[j]'(by omega)] := by
    rw [List.drop_eq_getElem_cons (by omega)]
    rfl
  rw [hone'] at h1
  exact ⟨_, _, _, List.getElem?_eq_getElem (by omega), h1.trans (List.getElem?_eq_getElem (by omega))⟩
theorem list3 {cs : List Value} (h : cs.length = 3) {a b c : Value} (h0 : cs[0]? = some a) (h1 : cs[1]? = some b) (h2 : cs[2]? = some c) : cs = [a, b, c] := by
  match cs, h with
  | [x, y, z], _ => simp at h0 h1 h2; simp [h0, h1, h2]
theorem list4 {cs : List Value} (h : cs.length = 4) {a b c d : Value} (h0 : cs[0]? = some a) (h1 : cs[1]? = some b) (h2 : cs[2]? = some c) (h3 : cs[3]? = some d) : cs = [a, b, c, d] := by
  match cs, h with
  | [x, y, z, t], _ => simp at h0 h1 h2 h3; simp [h0, h1, h2, h3]
theorem list2 {cs : List Value} (h : cs.length = 2) {a b : Value} (h0 : cs[0]? = some a) (h1 : cs[1]? = some b) : cs = [a, b] := by
  match cs, h with
  | [x, y], _ => simp at h0 h1; simp [h0, h1]
end

section
variable {H : Type} {enc : TypeId × Value → H} {w : World} {base : Nat} {spare : Nat → Bool} {held : Bool}
theorem opens_Int : Opens enc Try.prog w base spare held 3 Int := opens_int Try.underlying3
theorem opens_IntS : Opens enc Try.prog w base spare held 22 (List Int) := opens_slice Try.underlying22 (by kernel_rfl) (by decide) opens_Int
theorem opens_Term : Opens enc Try.prog w base spare held 105 Tm := fun _ cs _ h => by
  obtain ⟨hl, hf⟩ := one_field Try.underlying105 (by kernel_rfl) (by kernel_rfl) h
  obtain ⟨v0, _, _, e0, t0⟩ := hf 0 _ rfl
  obtain ⟨v1, _, _, e1, t1⟩ := hf 1 _ rfl
  obtain ⟨v2, _, _, e2, t2⟩ := hf 2 _ rfl
  obtain ⟨v3, _, _, e3, t3⟩ := hf 3 _ rfl
  obtain ⟨a, ha⟩ := opens_Int _ _ _ t0
  obtain ⟨b, hb⟩ := opens_Int _ _ _ t1
  obtain ⟨c, hc⟩ := opens_Int _ _ _ t2
  obtain ⟨d, hd⟩ := opens_Int _ _ _ t3
  injection (show [v0] = [.int .i64 a] from ha) with ha _
  injection (show [v1] = [.int .i64 b] from hb) with hb _
  injection (show [v2] = [.int .i64 c] from hc) with hc _
  injection (show [v3] = [.int .i64 d] from hd) with hd _
  subst ha; subst hb; subst hc; subst hd
  exact ⟨⟨a, b, c, d⟩, list4 hl e0 e1 e2 e3⟩
theorem opens_TermS : Opens enc Try.prog w base spare held 56 (List Tm) := opens_slice Try.underlying56 (by kernel_rfl) (by decide) opens_Term
theorem opens_TermSS : Opens enc Try.prog w base spare held 138 (List (List Tm)) := opens_slice Try.underlying138 (by kernel_rfl) (by decide) opens_TermS
theorem opens_Var : Opens enc Try.prog w base spare held 147 Vr := fun _ cs _ h => by
  obtain ⟨hl, hf⟩ := one_field Try.underlying147 (by kernel_rfl) (by kernel_rfl) h
  obtain ⟨v0, _, _, e0, t0⟩ := hf 0 _ rfl
  obtain ⟨v1, _, _, e1, t1⟩ := hf 1 _ rfl
  obtain ⟨v2, _, _, e2, t2⟩ := hf 2 _ rfl
  obtain ⟨a, ha⟩ := opens_Int _ _ _ t0
  obtain ⟨b, hb⟩ := opens_Int _ _ _ t1
  obtain ⟨c, hc⟩ := opens_Int _ _ _ t2
  injection (show [v0] = [.int .i64 a] from ha) with ha _
  injection (show [v1] = [.int .i64 b] from hb) with hb _
  injection (show [v2] = [.int .i64 c] from hc) with hc _
  subst ha; subst hb; subst hc
  exact ⟨⟨a, b, c⟩, list3 hl e0 e1 e2⟩
theorem opens_VarS : Opens enc Try.prog w base spare held 64 (List Vr) := opens_slice Try.underlying64 (by kernel_rfl) (by decide) opens_Var
theorem opens_Rule : Opens enc Try.prog w base spare held 140 Rl := fun _ cs _ h => by
  obtain ⟨hl, hf⟩ := one_field Try.underlying140 (by kernel_rfl) (by kernel_rfl) h
  obtain ⟨v0, _, _, e0, t0⟩ := hf 0 _ rfl
  obtain ⟨v1, _, _, e1, t1⟩ := hf 1 _ rfl
  obtain ⟨v2, _, _, e2, t2⟩ := hf 2 _ rfl
  obtain ⟨a, ha⟩ := opens_TermS _ _ _ t0
  obtain ⟨b, hb⟩ := opens_IntS _ _ _ t1
  obtain ⟨c, hc⟩ := opens_TermSS _ _ _ t2
  exact ⟨⟨a, b, c⟩, [v0], [v1, v2], list3 hl e0 e1 e2, ha, [v1], [v2], rfl, hb, hc⟩
theorem opens_RuleS : Opens enc Try.prog w base spare held 65 (List Rl) := opens_slice Try.underlying65 (by kernel_rfl) (by decide) opens_Rule

set_option maxRecDepth 100000 in
/-- An argument of type laws.System. -/
theorem open_system {v : Value} {d : DataW H} {p : List MemPlace} {r : Reach} {b0 : Nat} (hv : Value.okWide Try.prog w r b0 67 v) (h : DataW.Trod enc Try.prog w base spare held 67 v d p) :
    ∃ A1 n1 c1 A2 n2 c2, ∃ s : Sy, v = .agg #[.slice A1 n1 c1, .slice A2 n2 c2] ∧ Mem.rd w w.heap.size [.slice A1 n1 c1] s.vars ∧ Mem.rd w w.heap.size [.slice A2 n2 c2] s.rules := by
  obtain ⟨fuel, h⟩ := h
  obtain ⟨cs, rfl, hcs⟩ := okWide_struct Try.underlying67 hv
  obtain ⟨hl, hf⟩ := one_field Try.underlying67 (by kernel_rfl) (by kernel_rfl) h
  obtain ⟨v0, _, _, e0, t0⟩ := hf 0 _ rfl
  obtain ⟨v1, _, _, e1, t1⟩ := hf 1 _ rfl
  obtain ⟨a, ha⟩ := opens_VarS _ _ _ t0
  obtain ⟨b, hb⟩ := opens_RuleS _ _ _ t1
  have e := list2 hl e0 e1
  have ha' := ha
  have hb' := hb
  obtain ⟨A1, n1, c1, f1, _⟩ := ha'
  obtain ⟨A2, n2, c2, f2, _⟩ := hb'
  injection f1 with f1 _
  injection f2 with f2 _
  subst f1; subst f2
  refine ⟨A1, n1, c1, A2, n2, c2, ⟨a, b⟩, ?_, ha, hb⟩
  have e' : cs.toList = [.slice A1 n1 c1, .slice A2 n2 c2] := e
  rw [← Array.toArray_toList (xs := cs), e']
end
end Go.Proofs.Ythlkbkomecnbaaa
