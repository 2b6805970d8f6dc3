/- Diagrams: to which places one comes, in the program. -/
import Derived.Test.YtnpdeliaefjmlaaRch
import Derived.Deep.RegionHeld3
import Derived.OrdersIn
namespace Go.Proofs.Ytnpdeliaefjmlaa
open Go.RowKit Go.Shelf
attribute [local go_sem] Oper.semAt_some
set_option maxRecDepth 100000

theorem bool_info : (Try.prog.info? 4).map (fun i => (i.zero, i.size, i.bytes)) = some (some (.bool false), 1, 1) := by kernel_rfl
/-- bool's row of the table of types, under a name. -/
noncomputable def boolRow : TypeInfo := Classical.choose (info_parts bool_info)
theorem bool_row : Try.prog.info? 4 = some boolRow ∧ boolRow.zero = some (.bool false) ∧ boolRow.size = 1 ∧ boolRow.bytes = 1 := Classical.choose_spec (info_parts bool_info)
theorem run_make_bool (n : Nat) (hn : n ≤ 100000) (w : World) : (Instr.makeSlice 64 (.int .i64 n) (.int .i64 n)).run Try.prog w = .ok (.slice (some ⟨w.heap.size, 0, none⟩) n n) (w.alloc (.cells (madeCells #[.bool false] n) 4)) := by
  have h := run_make (P := Try.prog) w 64 4 boolRow (.bool false) Try.underlying64 bool_row.1 bool_row.2.1 .i64 .i64 n n (by omega) (by omega) (by rw [bool_row.2.2.2]; omega) (by omega)
  rw [bool_row.2.2.1] at h
  simp only [Int.toNat_natCast, Nat.mul_one] at h
  exact h
theorem blk_own {β : Type} (b : Nat) (t : TypeId) (f : β → List Value) : Own (fun s W => Blk W b t (f s)) := fun s X Y row hs hg hrow =>
  blk_grown hs hg (fun e' => by obtain ⟨o, ho, hc⟩ := hrow b e'; rw [show X.heap[b]? = _ from hs] at ho; cases ho; cases hc)
theorem made_bool (m : Nat) : (madeCells #[.bool false] m).toList = rchC m (fun _ => false) := by
  refine (toList_madeCells_one (.bool false) m).trans ?_
  refine List.ext_getElem (by rw [rchC_len]; simp) fun i h1 h2 => ?_
  simp [rchC]

/-! ### A drawn region within a round of a loop over a function -/
theorem upon_in {P : Program} {o : Oper} {a : Act} {K : Act → World → Prop} {Q : Exit → Act → World → Prop} (l n : Nat) {r : Result Next} (h : o.upon P a K Q r) : o.uponIn (Fence.wide.inRound l) n P a K Q r := by
  have hd : ∀ {q : Prop}, ((Fence.wide.inRound l).depth.isSome = true → q) := fun h => by cases h
  cases r with
  | ok x w' =>
    cases x
    all_goals first
      | exact h
      | exact ⟨hd, CallsIn.inRound l (callsIn_wide.2 h)⟩
      | exact ⟨hd, fun c cs _ => (by
          obtain ⟨v, w'', r, s⟩ := h c cs
          exact ⟨v, w'', r, stepsIn_wide.2 s⟩)⟩
      | exact h.elim
  | halt x w' =>
    cases x
    all_goals first
      | exact h
      | exact h.elim
def noDefer (ops : Array Oper) : Bool := ops.toList.all fun o => match o.op with | .defer _ => false | _ => true
theorem noDefer_spec {ops : Array Oper} (h : noDefer ops = true) {i : Nat} {o : Oper} (ho : ops[i]? = some o) (c : Call) : o.op ≠ .defer c := fun e => by
  have := List.all_eq_true.1 h o (by
    obtain ⟨hi, e⟩ := Array.getElem?_eq_some_iff.1 ho
    rw [← e]
    simp)
  rw [e] at this
  cases this
theorem wpOp_in {P : Program} {ops : Array Oper} {Q : Exit → Act → World → Prop} (hd : noDefer ops = true) (hQ : ¬ LetsOut Q) (l n : Nat) {i : Nat} {K : Act → World → Prop} {a : Act} {w : World} (h : wpOp P ops Q i K a w) : wpOpIn (Fence.wide.inRound l) n P ops Q i K a w := by
  unfold wpOp at h
  unfold wpOpIn
  cases ho : ops[i]? with
  | none => rw [ho] at h; exact h
  | some o =>
    rw [ho] at h
    dsimp only at h ⊢
    split
    · rename_i hw
      rw [if_pos hw] at h
      rcases h with h | h
      · refine ⟨fun _ _ => trivial, ?_⟩
        show o.uponIn _ _ _ _ _ _ ((o.semAt (some l) a.eval).run P w)
        rw [Oper.semAt_some l a.eval o (noDefer_spec hd ho)]
        exact upon_in l n h
      · exact absurd h.2 hQ
    · rename_i hw
      rw [if_neg hw] at h
      exact ⟨fun _ _ => trivial, h⟩
theorem wpAny_in {P : Program} {ops : Array Oper} {Q : Exit → Act → World → Prop} {md : Region.Mode} (hd : noDefer ops = true) (hQ : ¬ LetsOut Q) (l n : Nat) : ∀ (fuel : Nat) (listed : Array Bool) (a : Act) (w : World), wpAny P md ops Q fuel listed a w → wpAnyIn (Fence.wide.inRound l) n P md ops Q fuel listed a w
  | 0, _, _, _, h => h
  | fuel + 1, _, _, _, h => ⟨h.1, fun i hi => wpOpIn_mono (fun a' w' h' => wpAny_in hd hQ l n fuel _ a' w' h') (wpOp_in hd hQ l n (h.2 i hi))⟩
theorem region_round {P : Program} {ops : Array Oper} {Q : Exit → Act → World → Prop} {S : World → Prop} {l n id : Nat} {a : Act} {w : World} (hm : P.follows .mixedOrders = true) (hd : noDefer ops = true) (hQ : ¬ LetsOut Q) (hS : S w.drew)
    (h : S w.drew → wpAnyH P .any ops Q S ops.size (Array.replicate ops.size false) a w.drew) : (Code.region id ops true).wpIn (Fence.wide.inRound l) n P Q a w :=
  wpIn_region_any hm (wpAny_in hd hQ l n _ _ _ _ (wpAny_of_held _ _ _ _ (h hS)))

set_option maxHeartbeats 8000000 in
theorem comes_any (d : Dg) (ok : d.Ok) (A : Option Addr) (c : Nat) (nn : Int) (w : World) (h1 : Mem.rd w w.heap.size [.slice A d.forks.length c] d.forks) (p : isP d nn = true) :
    Calls Try.prog 83 #[.agg #[.int .i64 d.vars, .slice A d.forks.length c], .int .i64 nn] w (fun e w' => ∃ bb, e = .returned (.slice (some ⟨bb, 0, none⟩) (2 + d.forks.length) (2 + d.forks.length)) ∧ Blk w' bb 4 (rchC (2 + d.forks.length) (reachF d nn)) ∧ w.heap.size ≤ bb ∧ Below w.heap.size w w') := by
  have few := ok.few
  have pn := isP_iff.1 p
  obtain ⟨j, rfl⟩ : ∃ j : Nat, nn = (j : Int) := ⟨nn.toNat, by omega⟩
  obtain ⟨M, hM⟩ : ∃ M : Nat, M = 2 + d.forks.length := ⟨_, rfl⟩
  have hj : j < M := by omega
  have SZ := Lib.hid (fun W => size_d d A c W (by omega))
  rw [show (2 : Int) + d.forks.length = (M : Int) by omega] at SZ
  rw [← hM]
  have HS := fun W => run_make_bool M (by omega) W
  have B0 := below_alloc w (.cells #[.int .i64 d.vars, .slice A d.forks.length c] 46)
  have BX := Lib.hid (ci_box (w := w) (v1 := .int .i64 d.vars) (v2 := .slice A d.forks.length c) (t := 46))
  have HM := Lib.hid hM
  clear hM
  refine (callsIn_wide (n := 6)).1 ?_
  refine callsIn_of_wp_marks Try.func83 rfl trivial ?_ rfl
  simp only [Try.ntmps83, List.size_toArray, List.length_cons, List.length_nil, Nat.reduceAdd, Nat.reduceSub, Array.replicate_succ, Array.replicate_zero, List.push_toArray, List.append_toArray, List.nil_append, List.cons_append]
  gi_wp2_with fail
  refine ⟨trivial, ?_⟩
  refine (callsIn_wide.2 (SZ.out _)).mono ?_
  rintro e w2 ⟨rfl, b2⟩
  obtain ⟨B2, x0, x1⟩ := BX.out _ b2
  have l2 := Nat.lt_of_lt_of_le (by simp : w.heap.size < (w.alloc (.cells #[.int .i64 d.vars, .slice A d.forks.length c] 46)).heap.size) b2.size
  have kb := (ci_blk w2 (madeCells #[.bool false] M) 4).alloc (.cells #[.slice (some ⟨w2.heap.size, 0, none⟩) M M] 64)
  rw [made_bool] at kb
  have zc := kb.cell j
  rw [rchC_at M _ hj] at zc
  have zf := kb.frozen j
  have bE : Below w2.heap.size w2 ((w2.alloc (.cells (madeCells #[.bool false] M) 4)).alloc (.cells #[.slice (some ⟨w2.heap.size, 0, none⟩) M M] 64)) := (below_alloc w2 _).alloc (by simp) _
  have bS : Below w2.heap.size w2 (((w2.alloc (.cells (madeCells #[.bool false] M) 4)).alloc (.cells #[.slice (some ⟨w2.heap.size, 0, none⟩) M M] 64)).setCell ⟨w2.heap.size, j, none⟩ (.bool true)) := bE.setCell (p := ⟨w2.heap.size, j, none⟩) (Nat.le_refl _) _
  have x1s := cell_below bS (p := ⟨w.heap.size, 1, none⟩) l2 x1
  have x0s := cell_below bE (p := ⟨w.heap.size, 1, none⟩) l2 x1
  gi_wp2_with fail
  refine ⟨trivial, ?_⟩
  have kb3 := (ci_blk w2 ((madeCells #[.bool false] M).setIfInBounds j (.bool true)) 4).alloc (.cells #[.slice (some ⟨w2.heap.size, 0, none⟩) M M] 64)
  rw [Array.toList_setIfInBounds, made_bool, rchC_set] at kb3
  have ks3 := (ci_blk (w2.alloc (.cells ((madeCells #[.bool false] M).setIfInBounds j (.bool true)) 4)) #[.slice (some ⟨w2.heap.size, 0, none⟩) M M] 64)
  rw [World.size_alloc] at ks3
  have e0 : rchC M (fun y => false || decide (y = j)) = rchC M (rch d (j : Int) []) := rchC_ext M fun x _ => by
    rw [Bool.false_or]
    exact decide_eq_decide.2 ⟨fun h => by omega, fun h => by omega⟩
  rw [e0] at kb3
  have bE3 : Below w2.heap.size w2 ((w2.alloc (.cells ((madeCells #[.bool false] M).setIfInBounds j (.bool true)) 4)).alloc (.cells #[.slice (some ⟨w2.heap.size, 0, none⟩) M M] 64)) := (below_alloc w2 _).alloc (by simp) _
  have B3 := B2.trans (bE3.mono B2.size)
  have hr3 := Mem.rd_below h1 B3
  have hs3 : ((w2.alloc (.cells ((madeCells #[.bool false] M).setIfInBounds j (.bool true)) 4)).alloc (.cells #[.slice (some ⟨w2.heap.size, 0, none⟩) M M] 64)).heap.size = w2.heap.size + 2 := by simp
  have l2' : w.heap.size ≤ w2.heap.size := B2.size
  clear kb zc zf bE bS x1s x0s x0 x1 e0 HS BX bE3
  generalize ((w2.alloc (.cells ((madeCells #[.bool false] M).setIfInBounds j (.bool true)) 4)).alloc (.cells #[.slice (some ⟨w2.heap.size, 0, none⟩) M M] 64)) = W3 at *
  generalize w2.heap.size = bb at *
  refine (back_in Fence.wide _ trivial rfl A d.forks.length c W3).mono ?_
  rintro e w' ⟨rfl, rfl⟩
  gi_wp2_with fail
  have ks4 := ks3.alloc (.cells #[.slice A d.forks.length c] 44)
  have kb4 := kb3.alloc (.cells #[.slice A d.forks.length c] 44)
  have kq4 := ci_blk W3 #[.slice A d.forks.length c] 44
  have B4 := B3.alloc B3.size (.cells #[.slice A d.forks.length c] 44)
  have hr4 := Mem.rd_below hr3 ((below_alloc W3 (.cells #[.slice A d.forks.length c] 44)).mono B3.size)
  have hs4 : (W3.alloc (.cells #[.slice A d.forks.length c] 44)).heap.size = bb + 3 := by rw [World.size_alloc, hs3]
  rw [hs3] at kq4
  have kq5 := kq4.cell 0
  simp only [List.getElem?_cons_zero] at kq5
  clear ks3 kb3 B3 hr3 hs3
  generalize W3.alloc (.cells #[.slice A d.forks.length c] 44) = W4 at *
  refine wpIn_rangeFunc_ownH rfl (by omega) (gf := 121) (lb := #[.pointer (some ⟨bb + 2, 0, none⟩)]) rfl trivial (enters_of Try.func121 (by kernel_rfl) rfl)
    (back_stops Fence.wide 5 trivial rfl (by omega) (bb + 2) w.heap.size A d.forks.length c d.forks rfl (by omega) W4 (by omega) (by omega) kq5 hr4) kb_t (kb_b (by omega) (by omega)) (Below.refl _ _) (fun _ => rfl)
    (fun pre W => ((Blk W bb 4 (rchC M (rch d (j : Int) (pre.map (·.1)))) ∧ Blk W (bb + 1) 64 [.slice (some ⟨bb, 0, none⟩) M M]) ∧ Blk W (bb + 2) 44 [.slice A d.forks.length c]) ∧ Below w.heap.size w W)
    (fun _ _ _ => False)
    (OwnFrom.and (OwnFrom.and (OwnFrom.and (Own.from (blk_own _ _ _) _) (Own.from (blk_own _ _ _) _)) (Own.from (blk_own _ _ _) _)) (ownFrom_below (Nat.le_refl _) (by omega)))
    (fun _ _ _ _ _ hs _ _ => hs)
    ⟨⟨⟨kb4, ks4⟩, kq4⟩, B4⟩
    (fun x a' W => ∃ Bx, bb + 1 < Bx ∧ Blk W Bx 100 (el d.forks x.1).cs ∧ a' = { tmps := #[.agg #[.int .i64 d.vars, .slice A d.forks.length c], .int .i64 (j : Int), .pointer (some ⟨w.heap.size, 0, none⟩), undef, .slice none 0 0, .pointer (some ⟨bb + 1, 0, none⟩), .int .i64 (x.1 : Int), .pointer (some ⟨Bx, 0, none⟩), .agg #[.int .i64 d.vars, .slice A d.forks.length c], .int .i64 (M : Int), .slice (some ⟨bb, 0, none⟩) M M, .slice (some ⟨bb, 0, none⟩) M M, .int .i64 (j : Int), .pointer (some ⟨bb, j, none⟩), .pointer (some ⟨w.heap.size, 1, none⟩), .slice A d.forks.length c, .func (.func 121) #[] #[.pointer (some ⟨bb + 2, 0, none⟩)], .int .i64 (x.1 : Int), (el d.forks x.1).u, undef, undef, undef, undef, undef, undef, undef, undef, undef, undef, undef, undef, undef, undef], defers := [] })
    (fun x a' _ X Y row hs hg hr => by obtain ⟨Bx, g1, g2, g3⟩ := hs; exact ⟨Bx, g1, blk_own Bx _ (fun (_ : Unit) => (el d.forks x.1).cs) () X Y row g2 hg (fun r e => (hr r e).2), g3⟩)
    ?assign ?body ?done ?stop
  case assign =>
    rintro l pre x W K ⟨⟨⟨kb, ks⟩, kq⟩, hB⟩ hK
    have HK := hK
    obtain ⟨i, hi⟩ := x
    dsimp only at HK ⊢
    have lq := kq.lt
    have lW : w.heap.size ≤ W.heap.size := hB.size
    generalize hG : el d.forks i = G at *
    obtain ⟨gv, gl, gh⟩ := G
    dsimp only [Fk.u, Fk.cs] at HK ⊢
    gi_wp2
    exact HK _ _ ((KeepsOthers.alloc _ _).from _) (kb_alloc _ lW lq) ⟨⟨⟨kb.alloc _, ks.alloc _⟩, kq.alloc _⟩, hB.alloc lW _⟩ ⟨W.heap.size, by omega, ci_blk W #[.int .i64 gv, .int .i64 gl, .int .i64 gh] 100, rfl⟩
  case body =>
    rintro l pre x a' W hl ⟨r, hr⟩ ⟨⟨⟨kb, ks⟩, kq⟩, hB⟩ ⟨Bx, hBx, kx, rfl⟩ hlt
    obtain ⟨i, hi⟩ := x
    have F := ok.fork i hi
    have wi : IntKind.i64.wrap (2 + (i : Int)) = ((2 + i : Nat) : Int) := by rw [show 2 + (i : Int) = ((2 + i : Nat) : Int) by omega]; exact IntWalk.i64_in _ (by omega)
    have hiM : 2 + i < M := by have := HM.out; omega
    have y0 := ks.cell 0
    have s0 := ks.lt
    have z := kb.cell (2 + i)
    rw [rchC_at M _ hiM] at z
    have lb := kb.lt
    have lx := kx.lt
    have SN := Lib.hid (fun (R : Nat → Bool) (h : R (2 + i) = false) => rstep_no (d := d) h)
    have EP : Hid (rch d (j : Int) ((pre ++ [(⟨i, hi⟩ : {i : Nat // i < d.forks.length})]).map (fun x => x.1)) = rstep d (rch d (j : Int) (pre.map (·.1))) i) := Lib.hid (by rw [List.map_append]; exact rch_snoc d _ _ i)
    dsimp only at *
    simp only [List.getElem?_cons_zero] at y0
    generalize hR : rch d (j : Int) (pre.map (·.1)) = R at *
    clear hR
    obtain ⟨lo, hlo⟩ : ∃ lo : Nat, (el d.forks i).lo = lo := ⟨(el d.forks i).lo.toNat, by have := F.l0; omega⟩
    obtain ⟨hi2, hhi⟩ : ∃ hi2 : Nat, (el d.forks i).hi = hi2 := ⟨(el d.forks i).hi.toNat, by have := F.h0; omega⟩
    have hloM : lo < M := by have := F.l1; have := HM.out; omega
    have hlh : lo ≠ hi2 := fun e => ok.apart i hi (by rw [hlo, hhi, e])
    have hlh2 : hi2 ≠ lo := fun e => hlh e.symm
    have hx1 : Bx ≠ bb := by omega
    have hx2 : bb ≠ Bx := by omega
    have hhiM : hi2 < M := by have := F.h1; have := HM.out; omega
    have ST := Lib.hid (fun (h : R (2 + i) = true) => rchC_two (m := M) h hlo hhi)
    have ST2 := Lib.hid (fun (h : R (2 + i) = true) => rchC_owt (m := M) h hlo hhi)
    have x1 := kx.cell 1
    have x2 := kx.cell 2
    unfold Fk.cs at x1 x2
    simp only [List.getElem?_cons_zero, List.getElem?_cons_succ] at x1 x2
    rw [hlo] at x1
    rw [hhi] at x2
    have KB0 := Lib.hid kb
    have KS := Lib.hid ks
    have KQ := Lib.hid kq
    clear F kb ks kq
    have hbb : w.heap.size ≤ bb := l2'
    cases hq : R (2 + i)
    · rw [hq] at z
      have E := Lib.hid (EP.out.trans (SN.out R hq))
      clear hq
      gi_wp2
      exact ⟨KeepsFrom.refl _ _, kb_refl _ _ _, ⟨⟨⟨by rw [E.out]; exact KB0.out, KS.out⟩, KQ.out⟩, hB⟩⟩
    · rw [hq] at z
      have E1 := Lib.hid (ST.out hq)
      have E2 := Lib.hid (ST2.out hq)
      have kb1 := KB0.out.set lo (.bool true)
      have kb2 := KB0.out.set hi2 (.bool true)
      have zlo := KB0.out.cell lo
      have zhi := KB0.out.cell hi2
      rw [rchC_at M _ hloM] at zlo
      rw [rchC_at M _ hhiM] at zhi
      have flo := KB0.out.frozen lo
      have fhi := KB0.out.frozen hi2
      clear hq
      gi_wp2
      have y7 : (W.drew.setCell ⟨bb, lo, none⟩ (.bool true)).cell? ⟨bb + 1, 0, none⟩ = some (.slice (some ⟨bb, 0, none⟩) M M) := (World.cell?_of_block (w := W) (a := ⟨bb + 1, 0, none⟩) (setCell_heap _ _ _ (show bb + 1 ≠ bb by omega))).trans y0
      have x71 : (W.drew.setCell ⟨bb, lo, none⟩ (.bool true)).cell? ⟨Bx, 1, none⟩ = some (.int .i64 lo) := (World.cell?_of_block (w := W) (a := ⟨Bx, 1, none⟩) (setCell_heap _ _ _ (show Bx ≠ bb by omega))).trans x1
      have x72 : (W.drew.setCell ⟨bb, lo, none⟩ (.bool true)).cell? ⟨Bx, 2, none⟩ = some (.int .i64 hi2) := (World.cell?_of_block (w := W) (a := ⟨Bx, 2, none⟩) (setCell_heap _ _ _ (show Bx ≠ bb by omega))).trans x2
      have y9 : ((W.drew.setCell ⟨bb, lo, none⟩ (.bool true)).setCell ⟨bb, hi2, none⟩ (.bool true)).cell? ⟨bb + 1, 0, none⟩ = some (.slice (some ⟨bb, 0, none⟩) M M) := (World.cell?_of_block (w := W.drew.setCell ⟨bb, lo, none⟩ (.bool true)) (a := ⟨bb + 1, 0, none⟩) (setCell_heap _ _ _ (show bb + 1 ≠ bb by omega))).trans y7
      have x91 : ((W.drew.setCell ⟨bb, lo, none⟩ (.bool true)).setCell ⟨bb, hi2, none⟩ (.bool true)).cell? ⟨Bx, 1, none⟩ = some (.int .i64 lo) := (World.cell?_of_block (w := W.drew.setCell ⟨bb, lo, none⟩ (.bool true)) (a := ⟨Bx, 1, none⟩) (setCell_heap _ _ _ (show Bx ≠ bb by omega))).trans x71
      have x92 : ((W.drew.setCell ⟨bb, lo, none⟩ (.bool true)).setCell ⟨bb, hi2, none⟩ (.bool true)).cell? ⟨Bx, 2, none⟩ = some (.int .i64 hi2) := (World.cell?_of_block (w := W.drew.setCell ⟨bb, lo, none⟩ (.bool true)) (a := ⟨Bx, 2, none⟩) (setCell_heap _ _ _ (show Bx ≠ bb by omega))).trans x72
      have kd7 : Blk (W.drew.setCell ⟨bb, lo, none⟩ (.bool true)) bb 4 ((rchC M R).set lo (.bool true)) := (blk_of_heap (w' := W.drew) KB0.out rfl).set lo (.bool true)
      have kd9 := Lib.hid (kd7.set hi2 (.bool true))
      have zhi7 := kd7.cell hi2
      rw [List.getElem?_set_ne hlh, rchC_at M _ hhiM] at zhi7
      have fhi7 := kd7.frozen hi2
      clear kd7
      refine region_round (S := (fun w' => w'.cell? ⟨bb + 1, 0, none⟩ = some (.slice (some ⟨bb, 0, none⟩) M M) ∧ w'.cell? ⟨Bx, 1, none⟩ = some (.int .i64 lo) ∧ w'.cell? ⟨Bx, 2, none⟩ = some (.int .i64 hi2))) (by kernel_rfl) (by kernel_rfl) (by rintro ⟨_, _, h⟩; exact h) ?_ (fun hHeld => ?_)
      · (try dsimp only); first | exact ⟨y0, x1, x2⟩ | exact ⟨y7, x71, x72⟩ | exact ⟨y9, x91, x92⟩
      refine wpAnyH_take (i := 0) (v := ?av0) rfl (by kernel_rfl) (by kernel_rfl) (by kernel_rfl) (fun _ _ _ h => h) (Or.inl ⟨by kernel_rfl, ?ah0⟩) (by assumption) ?ar0
      case ah0 => ((intro w hSw; (try dsimp only at hSw); go_simp) <;> with_reducible rfl)
      (try simp only [List.getElem_toArray, List.getElem_cons_zero]); (try simp only [Act.put]); (try simp only [List.setIfInBounds_toArray]); (try simp only [List.set_cons_succ]); (try simp only [List.set_cons_zero])
      refine wpAnyH_take (i := 1) (v := ?av1) rfl (by kernel_rfl) (by kernel_rfl) (by kernel_rfl) (fun _ _ _ h => h) (Or.inl ⟨by kernel_rfl, ?ah1⟩) (by assumption) ?ar1
      case ah1 => ((intro w hSw; (try dsimp only at hSw); go_simp) <;> with_reducible rfl)
      (try simp only [List.getElem_toArray, List.getElem_cons_zero, List.getElem_cons_succ]); (try simp only [Act.put]); (try simp only [List.setIfInBounds_toArray]); (try simp only [List.set_cons_succ]); (try simp only [List.set_cons_zero])
      refine wpAnyH_take (i := 2) (v := ?av2) rfl (by kernel_rfl) (by kernel_rfl) (by kernel_rfl) (fun _ _ _ h => h) (Or.inl ⟨by kernel_rfl, ?ah2⟩) (by assumption) ?ar2
      case ah2 => ((intro w hSw; (try dsimp only at hSw); go_simp) <;> with_reducible rfl)
      (try simp only [List.getElem_toArray, List.getElem_cons_zero, List.getElem_cons_succ]); (try simp only [Act.put]); (try simp only [List.setIfInBounds_toArray]); (try simp only [List.set_cons_succ]); (try simp only [List.set_cons_zero])
      refine wpAnyH_take (i := 3) (v := ?av3) rfl (by kernel_rfl) (by kernel_rfl) (by kernel_rfl) (fun _ _ _ h => h) (Or.inl ⟨by kernel_rfl, ?ah3⟩) (by assumption) ?ar3
      case ah3 => ((intro w hSw; (try dsimp only at hSw); go_simp) <;> with_reducible rfl)
      (try simp only [List.getElem_toArray, List.getElem_cons_zero, List.getElem_cons_succ]); (try simp only [Act.put]); (try simp only [List.setIfInBounds_toArray]); (try simp only [List.set_cons_succ]); (try simp only [List.set_cons_zero])
      refine wpAnyH_take (i := 4) (v := ?av4) rfl (by kernel_rfl) (by kernel_rfl) (by kernel_rfl) (fun _ _ _ h => h) (Or.inl ⟨by kernel_rfl, ?ah4⟩) (by assumption) ?ar4
      case ah4 => ((intro w hSw; (try dsimp only at hSw); go_simp) <;> with_reducible rfl)
      (try simp only [List.getElem_toArray, List.getElem_cons_zero, List.getElem_cons_succ]); (try simp only [Act.put]); (try simp only [List.setIfInBounds_toArray]); (try simp only [List.set_cons_succ]); (try simp only [List.set_cons_zero])
      refine wpAnyH_take (i := 5) (v := ?av5) rfl (by kernel_rfl) (by kernel_rfl) (by kernel_rfl) (fun _ _ _ h => h) (Or.inl ⟨by kernel_rfl, ?ah5⟩) (by assumption) ?ar5
      case ah5 => ((intro w hSw; (try dsimp only at hSw); go_simp) <;> with_reducible rfl)
      (try simp only [List.getElem_toArray, List.getElem_cons_zero, List.getElem_cons_succ]); (try simp only [Act.put]); (try simp only [List.setIfInBounds_toArray]); (try simp only [List.set_cons_succ]); (try simp only [List.set_cons_zero])
      refine wpAnyH_take (i := 6) (v := ?av6) rfl (by kernel_rfl) (by kernel_rfl) (by kernel_rfl) (fun _ _ _ h => h) (Or.inl ⟨by kernel_rfl, ?ah6⟩) (by assumption) ?ar6
      case ah6 => ((intro w hSw; (try dsimp only at hSw); go_simp) <;> with_reducible rfl)
      (try simp only [List.getElem_toArray, List.getElem_cons_zero, List.getElem_cons_succ]); (try simp only [Act.put]); (try simp only [List.setIfInBounds_toArray]); (try simp only [List.set_cons_succ]); (try simp only [List.set_cons_zero])
      refine wpAnyH_ready (rs := [7]) (by kernel_rfl) (by simp) ?_
      refine AllReadyH.cons (o := _) rfl (fun K hK => ?_) AllReadyH.nil
      go_simp
      refine hK.out _ _ ?_ (fun hHeld => ?_)
      · (try dsimp only); first | exact ⟨y0, x1, x2⟩ | exact ⟨y7, x71, x72⟩ | exact ⟨y9, x91, x92⟩
      clear hK K
      (try simp only [List.getElem_toArray, List.getElem_cons_zero, List.getElem_cons_succ]); (try simp only [Act.put]); (try simp only [List.setIfInBounds_toArray]); (try simp only [List.set_cons_succ]); (try simp only [List.set_cons_zero])
      refine wpAnyH_take (i := 8) (v := ?av8) rfl (by kernel_rfl) (by kernel_rfl) (by kernel_rfl) (fun _ _ _ h => h) (Or.inl ⟨by kernel_rfl, ?ah8⟩) (by assumption) ?ar8
      case ah8 => ((intro w hSw; (try dsimp only at hSw); go_simp) <;> with_reducible rfl)
      (try simp only [List.getElem_toArray, List.getElem_cons_zero, List.getElem_cons_succ]); (try simp only [Act.put]); (try simp only [List.setIfInBounds_toArray]); (try simp only [List.set_cons_succ]); (try simp only [List.set_cons_zero])
      refine wpAnyH_ready (rs := [9]) (by kernel_rfl) (by simp) ?_
      refine AllReadyH.cons (o := _) rfl (fun K hK => ?_) AllReadyH.nil
      go_simp
      refine hK.out _ _ ?_ (fun hHeld => ?_)
      · (try dsimp only); first | exact ⟨y0, x1, x2⟩ | exact ⟨y7, x71, x72⟩ | exact ⟨y9, x91, x92⟩
      clear hK K
      (try simp only [List.getElem_toArray, List.getElem_cons_zero, List.getElem_cons_succ]); (try simp only [Act.put]); (try simp only [List.setIfInBounds_toArray]); (try simp only [List.set_cons_succ]); (try simp only [List.set_cons_zero])
      refine wpAnyH_done (by kernel_rfl) ?_ _
      have bd : Below w.heap.size w W.drew := ⟨hB.os, hB.tape, hB.output, hB.size, hB.block⟩
      have kd : KB w.heap.size (bb + 2) W W.drew := ⟨⟨rfl, rfl, rfl, Nat.le_refl _, fun _ _ => rfl⟩, rfl⟩
      gi_wp2
      exact ⟨(((KeepsOthers.drew W).trans (KeepsOthers.setCell _ _ _)).trans (KeepsOthers.setCell _ _ _)).from _, kb_t (kb_t kd (kb_set _ hbb (by omega))) (kb_set _ hbb (by omega)),
        ⟨⟨⟨by rw [EP.out, ← E1.out]; exact kd9.out, (setCell_heap _ _ _ (show bb + 1 ≠ bb by omega)).trans ((setCell_heap _ _ _ (show bb + 1 ≠ bb by omega)).trans KS.out)⟩, (setCell_heap _ _ _ (show bb + 2 ≠ bb by omega)).trans ((setCell_heap _ _ _ (show bb + 2 ≠ bb by omega)).trans KQ.out)⟩, (bd.setCell (p := ⟨bb, lo, none⟩) hbb _).setCell (p := ⟨bb, hi2, none⟩) hbb _⟩⟩
  case done =>
    rintro D ys W hD hS ⟨⟨⟨kb, ks⟩, kq⟩, hB⟩ hK
    have y0 := ks.cell 0
    have s0 := ks.lt
    simp only [List.getElem?_cons_zero] at y0
    have EF : Hid (rch d (j : Int) (ys.map (·.1)) = reachF d (j : Int)) := Lib.hid (by unfold reachF; rw [hS])
    have KB0 := Lib.hid kb
    clear kb
    gi_wp2
    refine ⟨by simp, .inl ⟨_, _, rfl, run_takeDeferred hK, ?_⟩⟩
    have lb := KB0.out.lt
    exact ⟨_, results_tmp rfl _ _ _, bb, rfl, by rw [← EF.out]; exact (World.putObj_heap_other (by omega)).trans KB0.out, l2', hB.trans (belowK_b (w := W4) (by omega) W D _ _ (by omega) hK rfl rfl)⟩
  case stop =>
    rintro D cc pre W _ _ h _
    exact h.elim
end Go.Proofs.Ytnpdeliaefjmlaa
