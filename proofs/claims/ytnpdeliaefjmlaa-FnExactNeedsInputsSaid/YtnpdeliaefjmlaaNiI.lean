/- Circuits: NeedsInputs, in the program. -/
import Derived.Test.YtnpdeliaefjmlaaNi
namespace Go.Proofs.Ytnpdeliaefjmlaa
open Go.RowKit Go.Shelf
attribute [local go_sem] Oper.semAt_some
set_option maxRecDepth 100000

theorem own_put {w : World} {base size n D : Nat} {t : TypeId} {v : Value} {xs : List Value} (h : w.ownsRow base t size v n xs) (hD : D < base) (o : Obj) : (w.putObj D o).ownsRow base t size v n xs := by
  obtain ⟨hl, h⟩ := h
  refine ⟨hl, ?_⟩
  rcases h with h | ⟨g, cap, cur, hv, hb, hg, r⟩
  · exact .inl h
  · exact .inr ⟨g, cap, cur, hv, hb, (World.putObj_heap_other (by omega)).trans hg, r⟩

set_option maxHeartbeats 8000000 in
theorem needs_impl (s : Ci) (e : Int) (A : Option Addr) (n c : Nat) (w : World) (h1 : Mem.rd w w.heap.size [.slice A n c] s.gates) :
    Calls Try.prog 15 #[.agg #[.int .i64 s.ins, .slice A n c], .int .i64 e] w (GivesL w (needsB s e)) := by
  obtain rfl : s.gates.length = n := rd_len h1
  have BX := Lib.hid (ci_box (w := w) (v1 := .int .i64 s.ins) (v2 := .slice A s.gates.length c) (t := 30))
  have HP := Lib.hid (fun W (B : Below w.heap.size w W) => hasE_any s A s.gates.length c (some ⟨W.heap.size, 0, none⟩) 1 1 [e] (W.alloc (.cells #[.int .i64 e] 3)) (Mem.rd_on_alloc (Mem.rd_on h1 B) _) (rd_newD1 W e))
  have eP : (ckB s && areE s [e]) = (ckB s && isE s e) := by simp [areE]
  rw [eP] at HP
  have MK0 := HP.out (w.alloc (.cells #[.int .i64 s.ins, .slice A s.gates.length c] 30)) (below_alloc _ _)
  simp only [World.size_alloc] at MK0
  refine Calls.mono (R := GivesInts w (needsB s e)) ?_ (fun e' w' h => givesL_of h (Nat.le_trans (needsB_len s e) (by unfold maxLen; omega)))
  cases k1 : (ckB s && isE s e)
  · rw [k1] at MK0
    rw [show needsB s e = [] from if_neg (by rw [k1]; simp)]
    clear h1 k1 eP HP
    go_enter Try.func15, Try.ntmps15
    go_wp2_with fail
    refine MK0.mono ?_
    rintro e' w1 ⟨rfl, b1'⟩
    have b1 := below_call b1'
    obtain ⟨B1, x0, x1⟩ := BX.out _ b1
    go_wp2
    go_ret
    exact ⟨_, rfl, World.ownsRow_nil _ _ _ _, B1⟩
  · rw [k1] at MK0
    rw [show needsB s e = inTo (needF s e) s.ins.toNat from if_pos k1]
    rw [Bool.and_eq_true] at k1
    obtain ⟨k1, q1⟩ := k1
    have ok := ckB_iff.1 k1
    have few := ok.few
    have pe := isE_iff.1 q1
    have i0 := ok.lo
    have i12 := ok.hi
    have SZ := Lib.hid (fun W => size_n s A c W ok.lo ok.hi ok.few)
    obtain ⟨j, hj1, hj2⟩ := half_of pe.1
    obtain ⟨I, hI⟩ : ∃ I : Nat, s.ins = I := ⟨s.ins.toNat, by omega⟩
    have hI2 : s.ins.toNat = I := by omega
    obtain ⟨M, hM⟩ : ∃ M : Nat, M = 1 + I + s.gates.length := ⟨_, rfl⟩
    have nod : s.nodes = (M : Int) := by unfold Ci.nodes; omega
    have hj : j < M := by omega
    have wj : IntKind.i64.wrap (e.tdiv 2) = (j : Int) := by rw [hj2]; exact IntWalk.i64_in _ (by omega)
    have HS := fun W => run_make_bool M (by omega) W
    have NP := Lib.hid (fun i => show nP s i = 1 + I + i by unfold nP; omega)
    have HM : Hid (M = 1 + I + s.gates.length) := Lib.hid hM
    have wi1 : IntKind.i64.wrap (1 + (I : Int)) = ((1 + I : Nat) : Int) := by rw [show 1 + (I : Int) = ((1 + I : Nat) : Int) by omega]; exact IntWalk.i64_in _ (by omega)
    have nI : I ≤ 12 := by omega
    have e0 : rchC M (fun y => false || decide (y = j)) = rchC M (nch s e []) := rchC_ext M fun x _ => by
      rw [Bool.false_or]
      exact decide_eq_decide.2 ⟨fun h => by omega, fun h => by omega⟩
    have E0 := Lib.hid e0
    rw [nod, hI] at SZ
    rw [hI] at MK0 BX
    rw [hI, show ((I : Int)).toNat = I by omega]
    have FG := ok.gate
    rw [hI] at FG
    have FG := Lib.hid FG
    have IL := Lib.hid (fun R k => inTo_len R k)
    have RA := Lib.hid (fun (m x : Nat) (R : Nat → Bool) (h : x < m) => rchC_at m R h)
    have IS : Hid (∀ R v, inTo R (v + 1) = if R (1 + v) = true then inTo R v ++ [(v : Int)] else inTo R v) := Lib.hid (fun R v => rfl)
    have I00 : Hid (∀ R, ints (inTo R 0) = ints []) := Lib.hid (fun R => rfl)
    clear hM nod hI hI2 i0 i12 k1 q1 ok e0 hj1 hj2 pe eP HP
    have w0s : (w.alloc (.cells #[.int .i64 I, .slice A s.gates.length c] 30)).heap.size = w.heap.size + 1 := World.size_alloc _ _
    refine (callsIn_wide (n := 6)).1 ?_
    refine callsIn_of_wp_marks Try.func15 rfl trivial ?_ rfl
    simp only [Try.ntmps15, List.size_toArray, List.length_cons, List.length_nil, Nat.reduceAdd, Nat.reduceSub, Array.replicate_succ, Array.replicate_zero, List.push_toArray, List.append_toArray, List.nil_append, List.cons_append]
    refine wpIn_wide.2 ?_
    go_wp2_with fail
    refine MK0.mono ?_
    rintro e' w1 ⟨rfl, b1'⟩
    have b1 := below_call b1'
    obtain ⟨B1, x0, x1⟩ := BX.out _ b1
    go_wp2_with fail
    refine (SZ.out _).mono ?_
    rintro e' w2 ⟨rfl, c2⟩
    have b2 := b1.trans (c2.mono b1.size)
    obtain ⟨B2, x0, x1⟩ := BX.out _ b2
    have l2 := Nat.lt_of_lt_of_le (by simp : w.heap.size < (w.alloc (.cells #[.int .i64 I, .slice A s.gates.length c] 30)).heap.size) b2.size
    have kb := (ci_blk w2 (madeCells #[.bool false] M) 4).alloc (.cells #[.slice (some ⟨w2.heap.size, 0, none⟩) M M] 64)
    rw [made_bool] at kb
    have zc := kb.cell j
    rw [rchC_at M _ hj] at zc
    have zf := kb.frozen j
    have bE : Below w2.heap.size w2 ((w2.alloc (.cells (madeCells #[.bool false] M) 4)).alloc (.cells #[.slice (some ⟨w2.heap.size, 0, none⟩) M M] 64)) := (below_alloc w2 _).alloc (by simp) _
    have bS : Below w2.heap.size w2 (((w2.alloc (.cells (madeCells #[.bool false] M) 4)).alloc (.cells #[.slice (some ⟨w2.heap.size, 0, none⟩) M M] 64)).setCell ⟨w2.heap.size, j, none⟩ (.bool true)) := bE.setCell (p := ⟨w2.heap.size, j, none⟩) (Nat.le_refl _) _
    have x1s := cell_below bS (p := ⟨w.heap.size, 1, none⟩) l2 x1
    have x0s := cell_below bE (p := ⟨w.heap.size, 1, none⟩) l2 x1
    clear b1' b1 B1 c2 MK0 SZ
    go_wp2_with fail
    have kb3 := (ci_blk w2 ((madeCells #[.bool false] M).setIfInBounds j (.bool true)) 4).alloc (.cells #[.slice (some ⟨w2.heap.size, 0, none⟩) M M] 64)
    rw [Array.toList_setIfInBounds, made_bool, rchC_set, E0.out] at kb3
    have ks3 := (ci_blk (w2.alloc (.cells ((madeCells #[.bool false] M).setIfInBounds j (.bool true)) 4)) #[.slice (some ⟨w2.heap.size, 0, none⟩) M M] 64)
    rw [World.size_alloc] at ks3
    have bE3 : Below w2.heap.size w2 ((w2.alloc (.cells ((madeCells #[.bool false] M).setIfInBounds j (.bool true)) 4)).alloc (.cells #[.slice (some ⟨w2.heap.size, 0, none⟩) M M] 64)) := (below_alloc w2 _).alloc (by simp) _
    have b3 := b2.trans (bE3.mono b2.size)
    have B3 := B2.trans (bE3.mono B2.size)
    have hr3 := Mem.rd_below h1 B3
    have hs3 : ((w2.alloc (.cells ((madeCells #[.bool false] M).setIfInBounds j (.bool true)) 4)).alloc (.cells #[.slice (some ⟨w2.heap.size, 0, none⟩) M M] 64)).heap.size = w2.heap.size + 2 := by simp
    have l2' : w.heap.size + 1 ≤ w2.heap.size := l2
    clear kb zc zf bE bS x1s x0s x0 x1 HS bE3 b2 B2
    generalize ((w2.alloc (.cells ((madeCells #[.bool false] M).setIfInBounds j (.bool true)) 4)).alloc (.cells #[.slice (some ⟨w2.heap.size, 0, none⟩) M M] 64)) = W3 at *
    generalize w2.heap.size = bb at *
    refine (callsIn_wide.1 (backN_in Fence.wide 5 trivial rfl A s.gates.length c W3)).mono ?_
    rintro e' w' ⟨rfl, rfl⟩
    go_wp2_with fail
    have ks4 := ks3.alloc (.cells #[.slice A s.gates.length c] 28)
    have kb4 := kb3.alloc (.cells #[.slice A s.gates.length c] 28)
    have kq4 := ci_blk W3 #[.slice A s.gates.length c] 28
    have b4 := b3.alloc b3.size (.cells #[.slice A s.gates.length c] 28)
    have hr4 := Mem.rd_below hr3 ((below_alloc W3 (.cells #[.slice A s.gates.length c] 28)).mono B3.size)
    have hs4 : (W3.alloc (.cells #[.slice A s.gates.length c] 28)).heap.size = bb + 3 := by rw [World.size_alloc, hs3]
    rw [hs3] at kq4
    have kq5 := kq4.cell 0
    simp only [List.getElem?_cons_zero] at kq5
    clear ks3 kb3 b3 B3 hr3 hs3
    obtain ⟨W0, hW0⟩ : ∃ W0, W0 = w.alloc (.cells #[.int .i64 I, .slice A s.gates.length c] 30) := ⟨_, rfl⟩
    rw [← hW0] at b4 BX w0s
    have hr4 := Mem.rd_more hr4 (show w.heap.size ≤ W0.heap.size by omega)
    have hbw : W0.heap.size ≤ bb := by omega
    clear hW0
    generalize W3.alloc (.cells #[.slice A s.gates.length c] 28) = W4 at *
    refine (wpIn_wide (n := 6)).1 ?_
    refine wpIn_rangeFunc_ownH rfl (by omega) (gf := 96) (lb := #[.pointer (some ⟨bb + 2, 0, none⟩)]) rfl trivial (enters_of Try.func96 (by kernel_rfl) rfl)
      (backN_stops Fence.wide 5 trivial rfl (by omega) (bb + 2) W0.heap.size A s.gates.length c s.gates rfl (by omega) W4 (by omega) (by omega) kq5 hr4) kb_t (kb_b (by omega) (by omega)) (Below.refl _ _) (fun _ => rfl)
      (fun pre W => ((Blk W bb 4 (rchC M (nch s e (pre.map (·.1)))) ∧ Blk W (bb + 1) 64 [.slice (some ⟨bb, 0, none⟩) M M]) ∧ Blk W (bb + 2) 28 [.slice A s.gates.length c]) ∧ Below W0.heap.size W0 W)
      (fun _ _ _ => False)
      (OwnFrom.and (OwnFrom.and (OwnFrom.and (Own.from (blk_own _ _ _) _) (Own.from (blk_own _ _ _) _)) (Own.from (blk_own _ _ _) _)) (ownFrom_below (Nat.le_refl _) (by omega)))
      (fun _ _ _ _ _ hs _ _ => hs)
      ⟨⟨⟨kb4, ks4⟩, kq4⟩, b4⟩
      (fun x a' W => ∃ Bx, bb + 1 < Bx ∧ Blk W Bx 73 (el s.gates x.1).cs ∧ a' = { tmps := #[.agg #[.int .i64 I, .slice A s.gates.length c], .int .i64 e, .pointer (some ⟨w.heap.size, 0, none⟩), undef, .slice none 0 0, .pointer (some ⟨bb + 1, 0, none⟩), .int .i64 (x.1 : Int), .pointer (some ⟨Bx, 0, none⟩), undef, undef, .agg #[.int .i64 I, .slice A s.gates.length c], .int .i64 e, .slice (some ⟨w.heap.size + 1, 0, none⟩) 1 1, .bool true, .bool false, .agg #[.int .i64 I, .slice A s.gates.length c], .int .i64 (M : Int), .slice (some ⟨bb, 0, none⟩) M M, .slice (some ⟨bb, 0, none⟩) M M, .int .i64 e, .int .i64 (j : Int), .pointer (some ⟨bb, j, none⟩), .pointer (some ⟨w.heap.size, 1, none⟩), .slice A s.gates.length c, .func (.func 96) #[] #[.pointer (some ⟨bb + 2, 0, none⟩)], .int .i64 (x.1 : Int), (el s.gates x.1).v, undef, undef, undef, undef, undef, undef, undef, undef, undef, undef, undef, undef, undef, undef, undef, undef, undef, undef, undef, undef, undef, undef, undef, undef, undef, undef, undef, undef, undef, undef, undef, undef, undef, undef], defers := [] })
      (fun x a' _ X Y row hs hg hr => by obtain ⟨Bx, g1, g2, g3⟩ := hs; exact ⟨Bx, g1, blk_own Bx _ (fun (_ : Unit) => (el s.gates x.1).cs) () X Y row g2 hg (fun r e => (hr r e).2), g3⟩)
      ?assign ?body ?done ?stop
    case assign =>
      rintro l pre x W K ⟨⟨⟨kb, ks⟩, kq⟩, hB⟩ hK
      have HK := hK
      obtain ⟨i, hi⟩ := x
      dsimp only at HK ⊢
      have lq := kq.lt
      have lW : W0.heap.size ≤ W.heap.size := hB.size
      generalize hG : el s.gates i = G at *
      obtain ⟨gl, gh⟩ := G
      dsimp only [Ga.v, Ga.cs] at HK ⊢
      gi_wp2
      exact HK _ _ ((KeepsOthers.alloc _ _).from _) (kb_alloc _ lW lq) ⟨⟨⟨kb.alloc _, ks.alloc _⟩, kq.alloc _⟩, hB.alloc lW _⟩ ⟨W.heap.size, by omega, ci_blk W #[.int .i64 gl, .int .i64 gh] 73, rfl⟩
    case body =>
      rintro l pre x a' W hl ⟨r, hr⟩ ⟨⟨⟨kb, ks⟩, kq⟩, hB⟩ ⟨Bx, hBx, kx, rfl⟩ hlt
      obtain ⟨i, hi⟩ := x
      have F := FG.out i hi
      obtain ⟨BW, x0, _⟩ := BX.out _ hB
      have wi2 : IntKind.i64.wrap (((1 + I : Nat) : Int) + (i : Int)) = ((1 + I + i : Nat) : Int) := by rw [show ((1 + I : Nat) : Int) + (i : Int) = ((1 + I + i : Nat) : Int) by omega]; exact IntWalk.i64_in _ (by omega)
      have hiM : 1 + I + i < M := by have := HM.out; omega
      have y0 := ks.cell 0
      have s0 := ks.lt
      have z := kb.cell (1 + I + i)
      rw [rchC_at M _ hiM] at z
      have lb := kb.lt
      have lx := kx.lt
      have SN := Lib.hid (fun (R : Nat → Bool) (h : R (1 + I + i) = false) => nstep_no (s := s) (i := i) (R := R) (by rw [NP.out]; exact h))
      have EP : Hid (nch s e ((pre ++ [(⟨i, hi⟩ : {i : Nat // i < s.gates.length})]).map (fun x => x.1)) = nstep s (nch s e (pre.map (·.1))) i) := Lib.hid (by rw [List.map_append]; exact nch_snoc s _ _ i)
      dsimp only at *
      simp only [List.getElem?_cons_zero] at y0
      generalize hR : nch s e (pre.map (·.1)) = R at *
      clear hR
      obtain ⟨lo, hlo, hlo2⟩ := half_of F.1
      obtain ⟨hi2, hhi, hhi2⟩ := half_of F.2.2.1
      have u1 := F.2.1
      have u2 := F.2.2.2
      have hloM : lo < M := by have := HM.out; omega
      have hhiM : hi2 < M := by have := HM.out; omega
      have hx1 : Bx ≠ bb := by omega
      have hx2 : bb ≠ Bx := by omega
      have ST := Lib.hid (fun (h : R (1 + I + i) = true) => nchC_two (m := M) (s := s) (i := i) (R := R) (by rw [NP.out]; exact h) hlo hhi)
      have wlo : IntKind.i64.wrap ((el s.gates i).a.tdiv 2) = (lo : Int) := by rw [hlo2]; exact IntWalk.i64_in _ (by omega)
      have whi : IntKind.i64.wrap ((el s.gates i).b.tdiv 2) = (hi2 : Int) := by rw [hhi2]; exact IntWalk.i64_in _ (by omega)
      have x1 := kx.cell 0
      have x2 := kx.cell 1
      unfold Ga.cs at x1 x2
      simp only [List.getElem?_cons_zero, List.getElem?_cons_succ] at x1 x2
      have KB0 := Lib.hid kb
      have KS := Lib.hid ks
      have KQ := Lib.hid kq
      clear F kb ks kq hlo hlo2 hhi hhi2 u1 u2
      generalize el s.gates i = G at *
      obtain ⟨ga, gb⟩ := G
      dsimp only at *
      cases hq : R (1 + I + i)
      · rw [hq] at z
        have E := Lib.hid (EP.out.trans (SN.out R hq))
        clear hq
        gi_wp2
        exact ⟨KeepsFrom.refl _ _, kb_refl _ _ _, ⟨⟨⟨by rw [E.out]; exact KB0.out, KS.out⟩, KQ.out⟩, hB⟩⟩
      · rw [hq] at z
        have E1 := Lib.hid (ST.out hq)
        have zlo := KB0.out.cell lo
        rw [rchC_at M _ hloM] at zlo
        have flo := KB0.out.frozen lo
        clear hq
        gi_wp2
        have y7 : (W.drew.setCell ⟨bb, lo, none⟩ (.bool true)).cell? ⟨bb + 1, 0, none⟩ = some (.slice (some ⟨bb, 0, none⟩) M M) := (World.cell?_of_block (w := W) (a := ⟨bb + 1, 0, none⟩) (setCell_heap _ _ _ (show bb + 1 ≠ bb by omega))).trans y0
        have x71 : (W.drew.setCell ⟨bb, lo, none⟩ (.bool true)).cell? ⟨Bx, 0, none⟩ = some (.int .i64 ga) := (World.cell?_of_block (w := W) (a := ⟨Bx, 0, none⟩) (setCell_heap _ _ _ (show Bx ≠ bb by omega))).trans x1
        have x72 : (W.drew.setCell ⟨bb, lo, none⟩ (.bool true)).cell? ⟨Bx, 1, none⟩ = some (.int .i64 gb) := (World.cell?_of_block (w := W) (a := ⟨Bx, 1, none⟩) (setCell_heap _ _ _ (show Bx ≠ bb by omega))).trans x2
        have y9 : ((W.drew.setCell ⟨bb, lo, none⟩ (.bool true)).setCell ⟨bb, hi2, none⟩ (.bool true)).cell? ⟨bb + 1, 0, none⟩ = some (.slice (some ⟨bb, 0, none⟩) M M) := (World.cell?_of_block (w := W.drew.setCell ⟨bb, lo, none⟩ (.bool true)) (a := ⟨bb + 1, 0, none⟩) (setCell_heap _ _ _ (show bb + 1 ≠ bb by omega))).trans y7
        have x91 : ((W.drew.setCell ⟨bb, lo, none⟩ (.bool true)).setCell ⟨bb, hi2, none⟩ (.bool true)).cell? ⟨Bx, 0, none⟩ = some (.int .i64 ga) := (World.cell?_of_block (w := W.drew.setCell ⟨bb, lo, none⟩ (.bool true)) (a := ⟨Bx, 0, none⟩) (setCell_heap _ _ _ (show Bx ≠ bb by omega))).trans x71
        have x92 : ((W.drew.setCell ⟨bb, lo, none⟩ (.bool true)).setCell ⟨bb, hi2, none⟩ (.bool true)).cell? ⟨Bx, 1, none⟩ = some (.int .i64 gb) := (World.cell?_of_block (w := W.drew.setCell ⟨bb, lo, none⟩ (.bool true)) (a := ⟨Bx, 1, none⟩) (setCell_heap _ _ _ (show Bx ≠ bb by omega))).trans x72
        have kd7 : Blk (W.drew.setCell ⟨bb, lo, none⟩ (.bool true)) bb 4 ((rchC M R).set lo (.bool true)) := (blk_of_heap (w' := W.drew) KB0.out rfl).set lo (.bool true)
        have kd9 := Lib.hid (kd7.set hi2 (.bool true))
        have kw7 := KB0.out.set lo (.bool true)
        have zhi8 := kw7.cell hi2
        rw [rchC_set, rchC_at M _ hhiM] at zhi8
        have fhi8 := KB0.out.frozen hi2
        clear kd7 kw7
        refine region_round (S := (fun w' => w'.cell? ⟨bb + 1, 0, none⟩ = some (.slice (some ⟨bb, 0, none⟩) M M) ∧ w'.cell? ⟨Bx, 0, none⟩ = some (.int .i64 ga) ∧ w'.cell? ⟨Bx, 1, none⟩ = some (.int .i64 gb))) (by kernel_rfl) (by kernel_rfl) (by rintro ⟨_, _, h⟩; exact h) ?_ (fun hHeld => ?_)
        · (try dsimp only); first | exact ⟨y0, x1, x2⟩ | exact ⟨y7, x71, x72⟩ | exact ⟨y9, x91, x92⟩
        refine wpAnyH_take (i := 0) (v := ?av0) rfl (by kernel_rfl) (by kernel_rfl) (by kernel_rfl) (fun _ _ _ h => h) (Or.inl ⟨by kernel_rfl, ?ah0⟩) (by assumption) ?ar0
        case ah0 => ((intro w hSw; (try dsimp only at hSw); go_simp) <;> with_reducible rfl)
        (try simp only [List.getElem_toArray, List.getElem_cons_zero]); (try simp only [Act.put]); (try simp only [List.setIfInBounds_toArray]); (try simp only [List.set_cons_succ]); (try simp only [List.set_cons_zero])
        refine wpAnyH_take (i := 1) (v := ?av1) rfl (by kernel_rfl) (by kernel_rfl) (by kernel_rfl) (fun _ _ _ h => h) (Or.inl ⟨by kernel_rfl, ?ah1⟩) (by assumption) ?ar1
        case ah1 => ((intro w hSw; (try dsimp only at hSw); go_simp) <;> with_reducible rfl)
        (try simp only [List.getElem_toArray, List.getElem_cons_zero, List.getElem_cons_succ]); (try simp only [Act.put]); (try simp only [List.setIfInBounds_toArray]); (try simp only [List.set_cons_succ]); (try simp only [List.set_cons_zero])
        refine wpAnyH_take (i := 2) (v := ?av2) rfl (by kernel_rfl) (by kernel_rfl) (by kernel_rfl) (fun _ _ _ h => h) (Or.inl ⟨by kernel_rfl, ?ah2⟩) (by assumption) ?ar2
        case ah2 => ((intro w hSw; (try dsimp only at hSw); go_simp) <;> with_reducible rfl)
        (try simp only [List.getElem_toArray, List.getElem_cons_zero, List.getElem_cons_succ]); (try simp only [Act.put]); (try simp only [List.setIfInBounds_toArray]); (try simp only [List.set_cons_succ]); (try simp only [List.set_cons_zero])
        refine wpAnyH_take (i := 3) (v := ?av3) rfl (by kernel_rfl) (by kernel_rfl) (by kernel_rfl) (fun _ _ _ h => h) (Or.inl ⟨by kernel_rfl, ?ah3⟩) (by assumption) ?ar3
        case ah3 => ((intro w hSw; (try dsimp only at hSw); go_simp) <;> with_reducible rfl)
        (try simp only [List.getElem_toArray, List.getElem_cons_zero, List.getElem_cons_succ]); (try simp only [Act.put]); (try simp only [List.setIfInBounds_toArray]); (try simp only [List.set_cons_succ]); (try simp only [List.set_cons_zero])
        refine wpAnyH_take (i := 4) (v := ?av4) rfl (by kernel_rfl) (by kernel_rfl) (by kernel_rfl) (fun _ _ _ h => h) (Or.inl ⟨by kernel_rfl, ?ah4⟩) (by assumption) ?ar4
        case ah4 => ((intro w hSw; (try dsimp only at hSw); go_simp) <;> with_reducible rfl)
        (try simp only [List.getElem_toArray, List.getElem_cons_zero, List.getElem_cons_succ]); (try simp only [Act.put]); (try simp only [List.setIfInBounds_toArray]); (try simp only [List.set_cons_succ]); (try simp only [List.set_cons_zero])
        refine wpAnyH_take (i := 5) (v := ?av5) rfl (by kernel_rfl) (by kernel_rfl) (by kernel_rfl) (fun _ _ _ h => h) (Or.inl ⟨by kernel_rfl, ?ah5⟩) (by assumption) ?ar5
        case ah5 => ((intro w hSw; (try dsimp only at hSw); go_simp) <;> with_reducible rfl)
        (try simp only [List.getElem_toArray, List.getElem_cons_zero, List.getElem_cons_succ]); (try simp only [Act.put]); (try simp only [List.setIfInBounds_toArray]); (try simp only [List.set_cons_succ]); (try simp only [List.set_cons_zero])
        refine wpAnyH_take (i := 6) (v := ?av6) rfl (by kernel_rfl) (by kernel_rfl) (by kernel_rfl) (fun _ _ _ h => h) (Or.inl ⟨by kernel_rfl, ?ah6⟩) (by assumption) ?ar6
        case ah6 => ((intro w hSw; (try dsimp only at hSw); go_simp) <;> with_reducible rfl)
        (try simp only [List.getElem_toArray, List.getElem_cons_zero, List.getElem_cons_succ]); (try simp only [Act.put]); (try simp only [List.setIfInBounds_toArray]); (try simp only [List.set_cons_succ]); (try simp only [List.set_cons_zero])
        refine wpAnyH_take (i := 7) (v := ?av7) rfl (by kernel_rfl) (by kernel_rfl) (by kernel_rfl) (fun _ _ _ h => h) (Or.inl ⟨by kernel_rfl, ?ah7⟩) (by assumption) ?ar7
        case ah7 => ((intro w hSw; (try dsimp only at hSw); go_simp) <;> with_reducible rfl)
        (try simp only [List.getElem_toArray, List.getElem_cons_zero, List.getElem_cons_succ]); (try simp only [Act.put]); (try simp only [List.setIfInBounds_toArray]); (try simp only [List.set_cons_succ]); (try simp only [List.set_cons_zero])
        refine wpAnyH_take (i := 8) (v := ?av8) rfl (by kernel_rfl) (by kernel_rfl) (by kernel_rfl) (fun _ _ _ h => h) (Or.inl ⟨by kernel_rfl, ?ah8⟩) (by assumption) ?ar8
        case ah8 => ((intro w hSw; (try dsimp only at hSw); go_simp) <;> with_reducible rfl)
        (try simp only [List.getElem_toArray, List.getElem_cons_zero, List.getElem_cons_succ]); (try simp only [Act.put]); (try simp only [List.setIfInBounds_toArray]); (try simp only [List.set_cons_succ]); (try simp only [List.set_cons_zero])
        refine wpAnyH_ready (rs := [9]) (by kernel_rfl) (by simp) ?_
        refine AllReadyH.cons (o := _) rfl (fun K hK => ?_) AllReadyH.nil
        go_simp
        refine hK.out _ _ ?_ (fun hHeld => ?_)
        · (try dsimp only); first | exact ⟨y0, x1, x2⟩ | exact ⟨y7, x71, x72⟩ | exact ⟨y9, x91, x92⟩
        clear hK K
        (try simp only [List.getElem_toArray, List.getElem_cons_zero, List.getElem_cons_succ]); (try simp only [Act.put]); (try simp only [List.setIfInBounds_toArray]); (try simp only [List.set_cons_succ]); (try simp only [List.set_cons_zero])
        refine wpAnyH_take (i := 10) (v := ?av10) rfl (by kernel_rfl) (by kernel_rfl) (by kernel_rfl) (fun _ _ _ h => h) (Or.inl ⟨by kernel_rfl, ?ah10⟩) (by assumption) ?ar10
        case ah10 => ((intro w hSw; (try dsimp only at hSw); go_simp) <;> with_reducible rfl)
        (try simp only [List.getElem_toArray, List.getElem_cons_zero, List.getElem_cons_succ]); (try simp only [Act.put]); (try simp only [List.setIfInBounds_toArray]); (try simp only [List.set_cons_succ]); (try simp only [List.set_cons_zero])
        refine wpAnyH_ready (rs := [11]) (by kernel_rfl) (by simp) ?_
        refine AllReadyH.cons (o := _) rfl (fun K hK => ?_) AllReadyH.nil
        go_simp
        refine hK.out _ _ ?_ (fun hHeld => ?_)
        · (try dsimp only); first | exact ⟨y0, x1, x2⟩ | exact ⟨y7, x71, x72⟩ | exact ⟨y9, x91, x92⟩
        clear hK K
        (try simp only [List.getElem_toArray, List.getElem_cons_zero, List.getElem_cons_succ]); (try simp only [Act.put]); (try simp only [List.setIfInBounds_toArray]); (try simp only [List.set_cons_succ]); (try simp only [List.set_cons_zero])
        refine wpAnyH_done (by kernel_rfl) ?_ _
        have bd : Below W0.heap.size W0 W.drew := ⟨hB.os, hB.tape, hB.output, hB.size, hB.block⟩
        have kd : KB W0.heap.size (bb + 2) W W.drew := ⟨⟨rfl, rfl, rfl, Nat.le_refl _, fun _ _ => rfl⟩, rfl⟩
        gi_wp2
        exact ⟨(((KeepsOthers.drew W).trans (KeepsOthers.setCell _ _ _)).trans (KeepsOthers.setCell _ _ _)).from _, kb_t (kb_t kd (kb_set _ hbw (by omega))) (kb_set _ hbw (by omega)),
          ⟨⟨⟨by rw [EP.out, ← E1.out]; exact kd9.out, (setCell_heap _ _ _ (show bb + 1 ≠ bb by omega)).trans ((setCell_heap _ _ _ (show bb + 1 ≠ bb by omega)).trans KS.out)⟩, (setCell_heap _ _ _ (show bb + 2 ≠ bb by omega)).trans ((setCell_heap _ _ _ (show bb + 2 ≠ bb by omega)).trans KQ.out)⟩, (bd.setCell (p := ⟨bb, lo, none⟩) hbw _).setCell (p := ⟨bb, hi2, none⟩) hbw _⟩⟩
    case done =>
      rintro D ys W hD hS ⟨⟨⟨kb, ks⟩, kq⟩, hB⟩ hK
      have EF : Hid (nch s e (ys.map (·.1)) = needF s e) := Lib.hid (by unfold needF; rw [hS])
      rw [EF.out] at kb
      generalize needF s e = R at *
      have KB0 := Lib.hid kb
      have KS := Lib.hid ks
      have HK := Lib.hid hK
      have lD : D < W.heap.size := (Array.getElem?_eq_some_iff.1 hK).1
      have lks := ks.lt
      have lkb := kb.lt
      have hDW : W0.heap.size ≤ D := by omega
      obtain ⟨BW, x0, _⟩ := BX.out _ hB
      obtain ⟨base, hbase⟩ : ∃ base, base = W.heap.size := ⟨_, rfl⟩
      have BB2 : Hid (Below base W W) := Lib.hid (Below.refl _ _)
      have hb2 : base ≤ W.heap.size := by omega
      have BK : Hid (∀ X, Below base W X → Blk X bb 4 (rchC M R) ∧ Blk X (bb + 1) 64 [.slice (some ⟨bb, 0, none⟩) M M]) := Lib.hid (fun X h => ⟨KB0.out.below h (by omega), KS.out.below h (by omega)⟩)
      have BWW : Hid (∀ X, Below base W X → Below W0.heap.size W0 X) := Lib.hid (fun X h => hB.trans (h.mono (by omega)))
      have HKX : Hid (∀ X, Below base W X → X.heap[D]? = some (.deferred (some []))) := Lib.hid (fun X h => (h.block D (by omega)).trans HK.out)
      clear hS kb ks kq hB hK EF KB0 KS HK BW
      go_wp2
      go_loopg [8, 47] I (fun m v i wr => ∃ (k q : Nat), k + m = I ∧ i = .int .i64 k ∧ Hid (wr.ownsRow base 3 1 v q (ints (inTo R k))) ∧ base ≤ wr.heap.size ∧ Hid (Below base W wr))
      case atStart => exact ⟨0, 0, by omega, rfl, by rw [I00.out]; exact Lib.hid (World.ownsRow_nil _ _ _ _), hb2, BB2⟩
      case round =>
        clear x0 BB2 hb2
        obtain ⟨k, q, hk, rfl, HO, hsz, hb⟩ := hrel
        have hql : q ≤ k := by have := HO.out.1; rw [len_ints] at this; have := IL.out R k; omega
        by_cases hlt : k < I
        · have kn : (k : Int) < I := by omega
          have kbs := BK.out _ hb.out
          have z := kbs.1.cell (1 + k)
          have hkM : 1 + k < M := by have := HM.out; omega
          rw [RA.out _ _ _ hkM] at z
          have y0 := kbs.2.cell 0
          simp only [List.getElem?_cons_zero] at y0
          have lb1 := kbs.1.lt
          have lb2 := kbs.2.lt
          have wk : IntKind.i64.wrap (1 + (k : Int)) = ((1 + k : Nat) : Int) := by rw [show 1 + (k : Int) = ((1 + k : Nat) : Int) by omega]; exact IntWalk.i64_in _ (by omega)
          have S := Lib.hid (IS.out R k)
          clear kbs
          cases p : R (1 + k)
          · rw [p, if_neg (by simp)] at S
            rw [p] at z
            clear p
            go_wp2
            go_roundg (I - (k + 1))
            case measure => omega
            case rel => exact ⟨k + 1, q, by omega, by go_num, by rw [S.out]; exact HO, hsz, hb⟩
          · rw [p, if_pos rfl] at S
            rw [p] at z
            clear p
            go_wp2_with (first
              | (at_builtin; refine app_int_at rfl _ _ rfl base _ q _ _ _ rfl (HO.out.alloc _) rfl (World.cell?_alloc_at _ _ _ _ (by simp)) (by omega) (by simp; omega) ?_; intro v' w6 ho6 hb6))
            have b6 := (hb.out.alloc hsz _).trans hb6
            have s6 : base ≤ w6.heap.size := by have := hb6.size; simp at this; omega
            go_roundg (I - (k + 1))
            case measure => omega
            case rel => exact ⟨k + 1, q + 1, by omega, by go_num, by rw [S.out]; exact Lib.hid ho6, s6, Lib.hid b6⟩
        · obtain rfl : k = I := by omega
          have kk : ¬ (k : Int) < k := by omega
          have hKw := HKX.out _ hb.out
          have hBw := BWW.out _ hb.out
          have hq : q = (inTo R k).length := by have := HO.out.1; rw [len_ints] at this; omega
          go_wp2
          refine ⟨by simp, .inl ⟨_, _, rfl, run_takeDeferred hKw, ?_⟩⟩
          refine ⟨_, results_tmp rfl _ _ _, _, rfl, ?_, ?_⟩
          · rw [← hq]
            exact own_lower (own_put HO.out (by omega) _) (by omega)
          · exact (BX.out _ (hBw.trans (belowK_b (n₀ := W0.heap.size) (w := W4) (by omega) wr D _ _ (by omega) hKw rfl rfl))).1
    case stop =>
      rintro D cc pre W _ _ h _
      exact h.elim
end Go.Proofs.Ytnpdeliaefjmlaa
