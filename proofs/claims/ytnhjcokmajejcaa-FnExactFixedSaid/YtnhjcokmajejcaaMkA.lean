/- Circuits that are made: the maker's put, in the program. -/
import Derived.Test.YtnhjcokmajejcaaMkT
namespace Go.Proofs.Ytnhjcokmajejcaa
open Go.RowKit
set_option maxRecDepth 100000

/-- What is the maker's own: its box, its map, the row of its gates. -/
def mineC (w : World) (g b : Nat) : Prop := b = g ∨ w.cell? ⟨g, 2, none⟩ = some (.map (some b)) ∨ ∃ A n c, w.cell? ⟨g, 1, none⟩ = some (.slice A n c) ∧ (Value.slice A n c).ownBlock = some b
theorem mineC_iff {w : World} {g b bm n c : Nat} {t : TypeId} {A : Option Addr} {x0 x3 : Value} (k : Blk w g t [x0, .slice A n c, .map (some bm), x3]) : mineC w g b ↔ b = g ∨ b = bm ∨ (Value.slice A n c).ownBlock = some b := by
  have z1 := k.cell 1
  have z2 := k.cell 2
  simp only [List.getElem?_cons_zero, List.getElem?_cons_succ] at z1 z2
  unfold mineC
  rw [z1, z2]
  constructor
  · rintro (h | h | ⟨A', n', c', h, hb⟩)
    · exact .inl h
    · injection h with h; injection h with h; injection h with h; exact .inr (.inl h.symm)
    · injection h with h; rw [h]; exact .inr (.inr hb)
  · rintro (h | h | h)
    · exact .inl h
    · exact .inr (.inl (by rw [h]))
    · exact .inr (.inr ⟨A, n, c, rfl, h⟩)
/-- Of what was there, only the maker's own has changed, and nothing of it has become the maker's. -/
structure FrameC (g : Nat) (w w' : World) : Prop where
  size : w.heap.size ≤ w'.heap.size
  keep : ∀ b, b < w.heap.size → ¬ mineC w g b → w'.heap[b]? = w.heap[b]? ∧ ¬ mineC w' g b
theorem mineC_heap {w w' : World} {g b : Nat} (h : w'.heap[g]? = w.heap[g]?) : mineC w' g b ↔ mineC w g b := by
  have e : ∀ j, w'.cell? ⟨g, j, none⟩ = w.cell? ⟨g, j, none⟩ := fun j => World.cell?_of_block (w := w) h
  unfold mineC
  rw [e, e]
theorem FrameC.refl (g : Nat) (w : World) : FrameC g w w := ⟨Nat.le_refl _, fun _ _ h => ⟨rfl, h⟩⟩
theorem FrameC.of_below {g : Nat} {w w' : World} (h : Below w.heap.size w w') (hg : g < w.heap.size) : FrameC g w w' :=
  ⟨h.size, fun b hb hn => ⟨h.block b hb, fun q => hn ((mineC_heap (h.block g hg)).1 q)⟩⟩
theorem FrameC.trans {g : Nat} {w w1 w2 : World} (h : FrameC g w w1) (k : FrameC g w1 w2) : FrameC g w w2 :=
  ⟨Nat.le_trans h.size k.size, fun b hb hn => by
    obtain ⟨e1, n1⟩ := h.keep b hb hn
    obtain ⟨e2, n2⟩ := k.keep b (Nat.lt_of_lt_of_le hb h.size) n1
    exact ⟨e2.trans e1, n2⟩⟩
theorem frameC_of {w w' : World} {g bm n c n' c' : Nat} {t : TypeId} {A A' : Option Addr} {x0 x3 x0' x3' : Value} (k : Blk w g t [x0, .slice A n c, .map (some bm), x3]) (k' : Blk w' g t [x0', .slice A' n' c', .map (some bm), x3'])
    (hs : w.heap.size ≤ w'.heap.size) (hk : ∀ b, b < w.heap.size → b ≠ g → b ≠ bm → (Value.slice A n c).ownBlock ≠ some b → w'.heap[b]? = w.heap[b]?) (hr : ∀ b, b < w.heap.size → (Value.slice A n c).ownBlock ≠ some b → (Value.slice A' n' c').ownBlock ≠ some b) : FrameC g w w' :=
  ⟨hs, fun b hb hn => by
    rw [mineC_iff k] at hn
    rw [mineC_iff k']
    have n1 := fun q => hn (.inr (.inr q))
    refine ⟨hk b hb (fun q => hn (.inl q)) (fun q => hn (.inr (.inl q))) n1, ?_⟩
    rintro (q | q | q)
    · exact hn (.inl q)
    · exact hn (.inr (.inl q))
    · exact hr b hb n1 q⟩
theorem mkAt_lt {w : World} {base g : Nat} {c : Ci} {full : Bool} (h : MkAt w base g c full) : g < w.heap.size := by
  obtain ⟨A, cc, bm, cnt, D, kg, _⟩ := h
  exact kg.lt
/-- The call gives an edge or a node, and leaves a maker. -/
def GivesMk (base g : Nat) (c : Ci) (full : Bool) (x : Int) (w : World) (e : Ending) (w' : World) : Prop := e = .returned (.int .i64 x) ∧ MkAt w' base g c full ∧ Below base w w' ∧ FrameC g w w'
theorem map_of_heap {w w' : World} {b n : Nat} {D : DataW Unit} (h : w.ownsMap Try.prog 90 (plainElem Try.prog 3) b n D) (e : w'.heap = w.heap) : w'.ownsMap Try.prog 90 (plainElem Try.prog 3) b n D := by
  obtain ⟨es, clock, hb, r⟩ := h
  exact ⟨es, clock, by rw [e]; exact hb, r⟩
theorem map_below {w w' : World} {b n : Nat} {D : DataW Unit} (h : w.ownsMap Try.prog 90 (plainElem Try.prog 3) b n D) (hb : Below w.heap.size w w') : w'.ownsMap Try.prog 90 (plainElem Try.prog 3) b n D :=
  h.kept (row := none) ⟨hb.os, hb.tape, hb.output, hb.size, fun i hi _ => hb.block i hi⟩ (by simp)
/-- What a look-up in the map tells, in whatever world that has its block. -/
theorem map_look {w : World} {b n : Nat} {D : DataW Unit} {c : Ci} (h : w.ownsMap Try.prog 90 (plainElem Try.prog 3) b n D) (F : FitD D c) {x y : Int} (x0 : 0 ≤ x) (x1 : x < 2000) (y0 : 0 ≤ y) (y1 : y < 2000) :
    ∃ v : Int, (findB c.gates x y = none ∨ ∃ i, findB c.gates x y = some i ∧ v = 1 + c.ins + i) ∧ ∀ W, W.heap = w.heap → (Instr.lookup 145 (.map (some b)) (.agg #[.int .i64 x, .int .i64 y]) true).run Try.prog W = .ok (.tuple #[.int .i64 v, .bool (findB c.gates x y).isSome]) W := by
  obtain ⟨kl, hk⟩ := and_key x0 (by omega) y0 (by omega)
  have hw0 : (Lit.int .i64 0).wf = true := by decide
  have one : ∀ W, W.heap = w.heap → ∃ v : Int, D.atKey kl (.lit (.int .i64 0)) = .lit (.int .i64 v) ∧ (Instr.lookup 145 (.map (some b)) (.agg #[.int .i64 x, .int .i64 y]) true).run Try.prog W = .ok (.tuple #[.int .i64 v, .bool (findB c.gates x y).isSome]) W := fun W hW => by
    obtain ⟨v, ps, hrun, hv⟩ := (map_of_heap h hW).look_ok and_law Try.underlying145 (and_zero W) (plainElem_int Try.underlying3 hw0) hk
    obtain ⟨z, rfl, hz, _⟩ := plainElem_int_inv Try.underlying3 hv
    rw [F.has x y kl hk] at hrun
    exact ⟨z, congrArg Prod.fst hz, hrun⟩
  obtain ⟨v, hv, _⟩ := one w rfl
  refine ⟨v, ?_, fun W hW => ?_⟩
  · cases q : findB c.gates x y with
    | none => exact .inl rfl
    | some i =>
      right
      have := F.at_ x y kl i hk q
      rw [hv] at this
      injection this with this
      injection this with _ this
      exact ⟨i, rfl, this⟩
  · obtain ⟨v', hv', hr⟩ := one W hW
    rw [hv] at hv'
    injection hv' with hv'
    injection hv' with _ hv'
    rw [hv']; exact hr
theorem map_on {W w w' : World} {row : Option Nat} {b n : Nat} {D : DataW Unit} (hg : W.grownBy w' row) (h : w.ownsMap Try.prog 90 (plainElem Try.prog 3) b n D) (e : W.heap = w.heap) (hne : row ≠ some b) : w'.ownsMap Try.prog 90 (plainElem Try.prog 3) b n D :=
  (map_of_heap h e).kept hg (fun q => hne q.symm)
theorem own_on {W w w' : World} {row : Option Nat} {base size k : Nat} {t : TypeId} {v : Value} {xs : List Value} (hg : W.grownBy w' row) (h : w.ownsRow base t size v k xs) (e : W.heap = w.heap) (hne : v.ownBlock ≠ row) : w'.ownsRow base t size v k xs :=
  (own_of_heap h e).kept hg (.inr hne)
theorem mk_snoc {w : World} {base g : Nat} {m : Int} {gs : List Ga} {z : Ga} {full : Bool} {A : Option Addr} {cc bm cnt : Nat} {D : DataW Unit} (k : Blk w g 147 [.int .i64 m, .slice A (gs.length + 1) cc, .map (some bm), .bool full])
    (o : w.ownsRow base 90 2 (.slice A (gs.length + 1) cc) (gs.length + 1) (fl (gs ++ [z]))) (mp : w.ownsMap Try.prog 90 (plainElem Try.prog 3) bm cnt D) (hc : cnt ≤ gs.length + 1) (F : FitD D ⟨m, gs ++ [z]⟩) (hg : base ≤ g) (hbm : base ≤ bm) (hne : g ≠ bm)
    (hr : ∀ b ∈ bl (.slice A (gs.length + 1) cc), b ≠ g ∧ b ≠ bm) : MkAt w base g ⟨m, gs ++ [z]⟩ full := by
  have e : (gs ++ [z]).length = gs.length + 1 := by rw [List.length_append]; rfl
  refine ⟨A, cc, bm, cnt, D, ?_, ?_, mp, ?_, F, hg, hbm, hne, ?_⟩
  · dsimp only; rw [e]; exact k
  · dsimp only; rw [e]; exact o
  · dsimp only; rw [e]; exact hc
  · dsimp only; rw [e]; exact hr
theorem size_mk (s : Ci) (A : Option Addr) (c : Nat) (w : World) (h : Gd s) : Calls Try.prog 56 #[.agg #[.int .i64 s.ins, .slice A s.gates.length c]] w (GivesInt w s.nodes) := size_any s A c w h.lo h.hi h.few

set_option maxRecDepth 100000 in
set_option maxHeartbeats 2000000 in
theorem put_any (s : Ci) (full : Bool) (x y : Int) (base g : Nat) (w : World) (hM : MkAt w base g s full) (hb : base ≤ w.heap.size) (h : Gd s) (hn : s.gates.length < 600) (x0 : 0 ≤ x) (x1 : x < 2000) (y0 : 0 ≤ y) (y1 : y < 2000) :
    Calls Try.prog 97 #[.pointer (some ⟨g, 0, none⟩), .agg #[.int .i64 x, .int .i64 y]] w (GivesMk base g ⟨s.ins, s.gates ++ [⟨x, y⟩]⟩ full s.nodes w) := by
  obtain ⟨A, cc, bm, cnt, D, kg, ho, hm, hcnt, hF, hg, hbm, hne, hrow⟩ := hM
  have SZ := Lib.hid (fun W => size_mk s A cc W h)
  have hnod := Ci.nodes_le h.lo h.hi h.few
  have hN : s.nodes = 1 + s.ins + s.gates.length := rfl
  generalize s.nodes = N at *
  obtain ⟨m, gs⟩ := s
  dsimp only at *
  have a0 := kg.cell 0
  have a1 := kg.cell 1
  simp only [List.getElem?_cons_zero, List.getElem?_cons_succ] at a0 a1
  have lg := kg.lt
  have BX := Lib.hid (ci_box (w := w) (v1 := .int .i64 x) (v2 := .int .i64 y) (t := 90))
  go_enter Try.func97, Try.ntmps97
  go_wp2_with fail
  refine (SZ.out _).mono ?_
  rintro e w1 ⟨rfl, b1⟩
  obtain ⟨B1, x0', x1'⟩ := BX.out _ b1
  have k1 := kg.below B1 lg
  have z1 := k1.cell 1
  have f1 := k1.frozen 1
  simp only [List.getElem?_cons_zero, List.getElem?_cons_succ] at z1
  have O1 := Lib.hid (own_below ho B1)
  have M1 := Lib.hid (map_below hm B1)
  have K1 := Lib.hid k1
  have lb := B1.size
  have KB := Lib.hid ((ci_blk w #[.int .i64 x, .int .i64 y] 90).below b1 (by simp))
  have NR := Lib.hid (fun b (hb : b ∈ bl (.slice A gs.length cc)) => hrow b hb)
  have NL := Lib.hid (fun b (e : (Value.slice A gs.length cc).ownBlock = some b) => ho.lt b e)
  have ng : (Value.slice A gs.length cc).ownBlock ≠ some g := fun e => (hrow g (mem_bl.2 e)).1 rfl
  have nm : (Value.slice A gs.length cc).ownBlock ≠ some bm := fun e => (hrow bm (mem_bl.2 e)).2 rfl
  have nw : (Value.slice A gs.length cc).ownBlock ≠ some w.heap.size := fun e => by have := (ho.lt _ e).2; omega
  have NG := Lib.hid (⟨ng, nm, nw⟩ : _ ∧ _ ∧ _)
  clear ng nm nw
  have lm := hm.lt
  have lg1 := K1.out.lt
  have hlen : gs.length < 1000000000 := by omega
  have hsz : base ≤ w1.heap.size := Nat.le_trans hb lb
  have KG0 := Lib.hid kg
  have BB1 := Lib.hid B1
  clear ho hm k1 hrow kg a0 a1
  go_wp2
  go_region_law (first
    | (refine step_app_ga (by rfl) _ _ (by rfl) base _ gs.length gs ⟨x, y⟩ ⟨w1.heap.size, 0, none⟩ (by rfl) (own_of_heap (O1.out.alloc _) rfl) (by rfl) (by first | exact World.cell?_alloc_at _ _ _ _ rfl | (simp [go_sem]; done)) (by first | exact World.cell?_alloc_at _ _ _ _ rfl | (simp [go_sem]; done)) rfl hlen (by simp; omega) ?_; intro A8 c8 w8 ho8 hg8 hl8
       have k8 := blk_on hg8 (K1.out.alloc _) rfl NG.out.1
       have z8 := k8.cell 1
       have f8 := k8.frozen 1
       simp only [List.getElem?_cons_zero, List.getElem?_cons_succ] at z8))
  all_goals
    have n8 : ∀ b, b < w1.heap.size → (Value.slice A gs.length cc).ownBlock ≠ some b → (Value.slice A8 (gs.length + 1) c8).ownBlock ≠ some b := fun b hb1 hb2 e => by
      rcases hl8 with q | q
      · rw [q] at e; exact hb2 e
      · rw [q] at e
        injection e with e
        first
          | (have q2 : (w1.alloc (.cells #[.int .i64 x, .int .i64 y] 90)).heap.size = b := e; rw [World.size_alloc] at q2; omega)
    have k9 := k8.set 1 (.slice A8 (gs.length + 1) c8)
    have o9 := own_away ho8 (p := ⟨g, 1, none⟩) (.slice A8 (gs.length + 1) c8) (n8 g lg1 NG.out.1)
    have m9 := (map_on hg8 (M1.out.alloc _) rfl NG.out.2.1).setCell (a := ⟨g, 1, none⟩) (fun e => hne e.symm) (.slice A8 (gs.length + 1) c8)
    have kb9 : Blk (w8.setCell ⟨g, 1, none⟩ (.slice A8 (gs.length + 1) c8)) w.heap.size _ _ := (setCell_heap _ _ _ (by show w.heap.size ≠ g; omega)).trans (blk_on hg8 (KB.out.alloc _) rfl NG.out.2.2)
    have b9 : Below base w (w8.setCell ⟨g, 1, none⟩ (.slice A8 (gs.length + 1) c8)) := by
      refine Below.setCell ?_ hg _
      have q := (B1.mono hb).alloc (Nat.le_trans hb lb) (.cells #[.int .i64 x, .int .i64 y] 90)
      have q2 : ∀ b, (Value.slice A gs.length cc).ownBlock = some b → base ≤ b := fun b e => (NL.out b e).1
      first
        | exact q.grown hg8 (by rw [World.size_alloc]; omega) q2
        | exact q.drew.grown hg8 (by show base ≤ (w1.alloc _).heap.size; rw [World.size_alloc]; omega) q2
    have r9 : ∀ b ∈ bl (.slice A8 (gs.length + 1) c8), b ≠ g ∧ b ≠ bm := fun b hb1 => by
      refine ⟨fun e => ?_, fun e => ?_⟩
      · subst e; exact n8 _ lg1 NG.out.1 (mem_bl.1 hb1)
      · subst e; exact n8 _ (by omega) NG.out.2.1 (mem_bl.1 hb1)
    have h9 : ∀ b, b < w.heap.size → b ≠ g → (Value.slice A gs.length cc).ownBlock ≠ some b → (w8.setCell ⟨g, 1, none⟩ (.slice A8 (gs.length + 1) c8)).heap[b]? = w.heap[b]? := fun b hb1 hb2 hb3 => by
      refine (setCell_heap _ _ _ (show b ≠ g from hb2)).trans ((hg8.block b (by show b < (w1.alloc _).heap.size; rw [World.size_alloc]; omega) (fun e => hb3 e.symm)).trans ?_)
      exact (Below.heap_alloc w1 _ b (by omega)).trans (BB1.out.block b hb1)
    have n9 : ∀ b, b < w.heap.size → (Value.slice A gs.length cc).ownBlock ≠ some b → (Value.slice A8 (gs.length + 1) c8).ownBlock ≠ some b := fun b hb1 hb2 => n8 b (by omega) hb2
    have N9 := Lib.hid n9
    clear k8 z8 f8 n8 n9
    generalize w8.setCell ⟨g, 1, none⟩ (.slice A8 (gs.length + 1) c8) = w9 at k9 o9 m9 kb9 b9 h9 ⊢
    have x90 := kb9.cell 0
    have x91 := kb9.cell 1
    have z2 := k9.cell 2
    simp only [List.set_cons_zero, List.set_cons_succ, List.getElem?_cons_zero, List.getElem?_cons_succ] at x90 x91 z2 k9
    obtain ⟨v, hv, HL⟩ := map_look m9 hF x0 x1 y0 y1
    have LK := fun k => HL (w9.drewN k) rfl
    have K9 := Lib.hid k9
    have O9 := Lib.hid o9
    have M9 := Lib.hid m9
    have B9 := Lib.hid b9
    have R9 := Lib.hid r9
    have H9 := Lib.hid h9
    clear k9 o9 m9 b9 r9 h9 HL
    dsimp only at hv LK
    cases q : findB gs x y with
    | some i =>
      rw [q] at LK
      simp only [Option.isSome_some] at LK
      clear hv
      have HQ := Lib.hid q
      clear q
      go_wp2
      go_quiet (fail)
      go_wp2
      go_ret
      exact ⟨congrArg (fun z => Ending.returned (.int .i64 z)) hN.symm, mk_snoc (blk_of_heap K9.out rfl) (own_of_heap O9.out rfl) (map_of_heap M9.out rfl) (Nat.le_succ_of_le hcnt) (fit_old hF HQ.out) hg hbm hne R9.out, ⟨B9.out.os, B9.out.tape, B9.out.output, B9.out.size, B9.out.block⟩,
        frameC_of KG0.out (blk_of_heap K9.out rfl) B9.out.size (fun b h1 h2 _ h4 => H9.out b h1 h2 h4) N9.out⟩
    | none =>
      rw [q] at LK
      simp only [Option.isSome_none] at LK
      clear hv
      obtain ⟨kl, hk⟩ := and_key x0 (by omega) y0 (by omega)
      have UP := Lib.hid (fun (W : World) (e : W.heap = w9.heap) => (map_of_heap M9.out e).update and_law Try.underlying145 (by unfold maxLen; omega) hk (plainElem_int Try.underlying3 (a := 1 + m + gs.length) (int_wf (by omega) (by omega))))
      have FN := Lib.hid (fit_new hF q hk)
      clear q hk hF
      dsimp only at FN
      go_wp2
      go_quiet (fail)
      obtain ⟨w10, hrun, hm10, hg10⟩ := UP.out (w9.drewN (nq + 1)) rfl
      go_wp2
      go_region_law (fail)
      all_goals
        go_wp2
        go_ret
        have nb : ∀ b, b ≠ bm → some bm ≠ some b := fun b h e => by injection e with e; exact h e.symm
        refine ⟨congrArg (fun z => Ending.returned (.int .i64 z)) hN.symm, mk_snoc (blk_on hg10 K9.out rfl (nb _ hne)) (own_on hg10 O9.out rfl (fun e => (R9.out bm (mem_bl.2 e)).2 rfl)) hm10 (by omega) FN.out hg hbm hne R9.out, ?_, ?_⟩
        rotate_left
        · exact frameC_of KG0.out (blk_on hg10 K9.out rfl (nb _ hne)) (Nat.le_trans B9.out.size hg10.size) (fun b h1 h2 h3 h4 => (hg10.block b (Nat.lt_of_lt_of_le h1 B9.out.size) (fun e => nb b h3 e.symm)).trans (H9.out b h1 h2 h4)) N9.out
        have q9 : Below base w (w9.drewN (nq + 1)) := ⟨B9.out.os, B9.out.tape, B9.out.output, B9.out.size, B9.out.block⟩
        exact q9.grown hg10 (Nat.le_trans hb B9.out.size) (fun b e => by injection e with e; omega)
end Go.Proofs.Ytnhjcokmajejcaa
