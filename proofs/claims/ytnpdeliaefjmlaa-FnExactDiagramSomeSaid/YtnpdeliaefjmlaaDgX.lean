/- Diagrams: a variable that is fixed, in the program. -/
import Derived.Test.YtnpdeliaefjmlaaDgU
import Derived.Deep.CutRange
namespace Go.Proofs.Ytnpdeliaefjmlaa
open Go.RowKit
set_option maxRecDepth 100000

theorem fix_val {d : Dg} {x a b y : Int} (h : 0 ≤ x) (e : stp d (3 + x) a b = .val y) : b ≤ varP d a ∧ y = atP d a b x := by
  unfold stp at e
  rw [if_neg (by omega)] at e
  by_cases c : b ≤ varP d a
  · rw [if_pos c] at e
    injection e with e
    exact ⟨c, by rw [← e, show 3 + x - 3 = x by omega]⟩
  · rw [if_neg c] at e; cases e
theorem fix_two {d : Dg} {x a b v a0 b0 a1 b1 : Int} (h : 0 ≤ x) (e : stp d (3 + x) a b = .two v a0 b0 a1 b1) : ¬ b ≤ varP d a ∧ varP d a = v ∧ (fkA d a).lo = a0 ∧ b = b0 ∧ (fkA d a).hi = a1 ∧ b = b1 := by
  unfold stp at e
  rw [if_neg (by omega)] at e
  by_cases c : b ≤ varP d a
  · rw [if_pos c] at e; cases e
  · rw [if_neg c] at e
    injection e with e1 e2 e3 e4 e5
    exact ⟨c, e1, e2, e3, e4, e5⟩

set_option maxHeartbeats 8000000 in
theorem fix0_any (k : Nat) : ∀ (d : Dg) (a b : Int) (full : Bool) (m base g : Nat) (w : World), MkD w base g d full m → base ≤ w.heap.size → fitA d 3 a b → d.vars - rk d 3 a b < k → m + 3 ^ k ≤ 100000000 →
    Calls Try.prog 73 #[.pointer (some ⟨g, 0, none⟩), .int .i64 a, .int .i64 b, .int .i64 0] w (GivesRun base g d 3 a b full (m + 3 ^ k) w) := by
  induction k with
  | zero => intro d a b full m base g w hM _ gA hk _; have := rk_le hM.ok gA; omega
  | succ k ih =>
    intro d a b full m base g w hM hb gA hk hm
    have IH := Lib.hid ih
    clear ih
    have ok := hM.ok
    have h3 : 0 < 3 ^ k := Nat.pow_pos (by decide)
    rw [Nat.pow_succ] at hm ⊢
    have pa := gA.pa
    have bv := gA.v1 (by omega)
    obtain ⟨A0, cc0, bp0, br0, kg0, rd0, few0, lg0, hbg0⟩ := mkD_row hM
    have VA := Lib.hid (variable_any d A0 d.forks.length cc0 a w rd0 (by omega) (isP_iff.1 pa).2)
    have z0 := kg0.cell 0
    have z1 := kg0.cell 1
    simp only [List.getElem?_cons_zero, List.getElem?_cons_succ] at z0 z1
    cases e : stp d 3 a b with
    | val y =>
      have HR := Lib.hid (ran_val ok gA full e)
      obtain ⟨hge, rfl⟩ := fix_val (x := 0) (by decide) e
      have AL := Lib.hid (fun W (B : Below w.heap.size w W) => along_any d A0 d.forks.length cc0 a b 0 W (Mem.rd_on rd0 B) (by omega) (isP_iff.1 pa).2 bv)
      have HM := Lib.hid (fun W (B : Below w.heap.size w W) => mkD_below (mkD_more hM (Nat.le_add_right m (3 ^ k * 3))) B)
      have LG := Lib.hid lg0
      clear hM gA e ok hm hk rd0 kg0 pa
      generalize atP d a b 0 = y at *
      generalize varP d a = V at *
      go_enter Try.func73, Try.ntmps73
      go_wp2_with fail
      refine (VA.out).mono ?_
      rintro e w1 ⟨rfl, b1⟩
      have z0 := cell_below b1 (p := ⟨g, 0, none⟩) LG.out z0
      have z1 := cell_below b1 (p := ⟨g, 1, none⟩) LG.out z1
      go_wp2_with fail
      refine (AL.out _ b1).mono ?_
      rintro e w2 ⟨rfl, b2⟩
      have b12 := b1.trans (b2.mono b1.size)
      go_wp2
      go_ret
      exact ⟨y, d, full, rfl, HM.out _ b12, b12.mono hb, HR.out, Frame.of_below b12 LG.out⟩
    | two v a0 b0 a1 b1 =>
      obtain ⟨hlt, hv, ha0, hb0, ha1, hb1⟩ := fix_two (x := 0) (by decide) e
      obtain ⟨ev, v0, v1, g0, g1, r0, r1⟩ := stp_two ok gA e
      obtain ⟨s1, s2, s3⟩ := fitA_sml gA ok
      obtain ⟨kl, hkl⟩ := op_key s1 s2 s3
      obtain ⟨A, cc, bp, cp, Dp, br, cr, Dr, kg, ho, hp, c1, f1, hr, c2, f2, hd, hrow⟩ := hM.mem
      have lg := kg.lt
      have z2 := kg.cell 3
      simp only [List.getElem?_cons_zero, List.getElem?_cons_succ] at z2
      have BA := Lib.hid (fun W (B : Below w.heap.size w W) => B.trans ((below_alloc W (.cells #[.int .i64 3, .int .i64 a, .int .i64 b] 130)).mono B.size))
      have HLK := Lib.hid (fun W (B : Below w.heap.size w W) => mp_look (mp_below hr (BA.out W B)) op_law Try.underlying125 hkl)
      have HMW := Lib.hid (fun W (B : Below w.heap.size w W) k => mkD_of_heap (w' := (W.alloc (.cells #[.int .i64 3, .int .i64 a, .int .i64 b] 130)).drewN k) (mkD_below hM (BA.out W B)) rfl)
      cases hh : Maps.has Dr kl
      · have HKL := Lib.hid hkl
        have NK := Lib.hid (fun b (hbb : w.heap.size ≤ b) (q : mine w g b) => show False from by have := mine_lt hM q; omega)
        have HH := Lib.hid hh
        have a2 : 2 ≤ a := by
          refine Int.not_lt.1 fun h2 => hlt ?_
          unfold varP
          rw [if_pos h2]; omega
        have LGW := Lib.hid lg
        have evv : varP d a = (fkA d a).v := if_neg (by omega)
        subst ha0
        subst hb0
        subst ha1
        subst hb1
        subst hv
        have R0 : d.vars - rk d 3 (fkA d a).lo b < k := by omega
        have HE := Lib.hid e
        have EV := Lib.hid ev
        have pl := g0.pa
        have FK := Lib.hid (fun (W : World) A1 cc1 (rd1 : Mem.rd W W.heap.size [.slice A1 d.forks.length cc1] d.forks) => fork_any d A1 d.forks.length cc1 a W rd1 (by omega) a2 (isP_iff.1 pa).2)
        have G0 := Lib.hid g0
        have G1 := Lib.hid g1
        have RR1 := Lib.hid r1
        have EVV := Lib.hid evv
        clear e ev g0 g1 r0 r1 hkl hh hM kg ho hp c1 f1 hr c2 f2 hd hrow rd0 kg0
        generalize hV : varP d a = V at *
        generalize hG : fkA d a = G at *
        obtain ⟨gv, gl, gh⟩ := G
        dsimp only [Fk.u] at *
        have evv := EVV.out
        subst evv
        clear hG hV
        go_enter Try.func73, Try.ntmps73
        go_wp2_with fail
        refine (VA.out).mono ?_
        rintro e w1 ⟨rfl, b1⟩
        obtain ⟨y, hy, HL⟩ := HLK.out w1 b1
        rw [HH.out] at HL
        have LK := fun k => HL ((w1.alloc (.cells #[.int .i64 3, .int .i64 a, .int .i64 b] 130)).drewN k) rfl
        have z2 := cell_below b1 (p := ⟨g, 3, none⟩) lg z2
        have lg := Nat.lt_of_lt_of_le lg b1.size
        have HM1 := Lib.hid (fun k => HMW.out w1 b1 k)
        have KB1 := Lib.hid (fun k => blk_of_heap (w' := (w1.alloc (.cells #[.int .i64 3, .int .i64 a, .int .i64 b] 130)).drewN k) (ci_blk w1 #[.int .i64 3, .int .i64 a, .int .i64 b] 130) rfl)
        have BK := BA.out w1 b1
        have BW1 := Lib.hid (fun k => (⟨BK.os, BK.tape, BK.output, BK.size, BK.block⟩ : Below w.heap.size w ((w1.alloc (.cells #[.int .i64 3, .int .i64 a, .int .i64 b] 130)).drewN k)))
        have NK1 := NK.out w1.heap.size b1.size
        clear BK HL hy
        go_wp2
        go_quiet (fail)
        go_upto_region 9 with fail
        have hM1 := HM1.out nq
        have kb1 := KB1.out nq
        have bw1 := BW1.out nq
        have nk1 : ¬ mine ((w1.alloc (.cells #[.int .i64 3, .int .i64 a, .int .i64 b] 130)).drewN nq) g w1.heap.size := fun q => NK1 ((mine_heap (bw1.block g LGW.out)).1 q)
        have fw1 := Lib.hid (Frame.of_below bw1 LGW.out)
        clear HM1 KB1 BW1 LK z2 z0 z1
        generalize (w1.alloc (.cells #[.int .i64 3, .int .i64 a, .int .i64 b] 130)).drewN nq = W1 at hM1 kb1 bw1 nk1 fw1 ⊢
        obtain ⟨A1, cc1, bp1, br1, kg1, rd1, few1, lg1, hbg1⟩ := mkD_row hM1
        have z0 := kg1.cell 0
        have z1 := kg1.cell 1
        simp only [List.getElem?_cons_zero, List.getElem?_cons_succ] at z0 z1
        have FKW := Lib.hid (FK.out W1 A1 cc1 rd1)
        go_wp2_with fail
        refine (FKW.out).mono ?_
        rintro e w2 ⟨rfl, b2⟩
        have B2 := b2.alloc b2.size (.cells #[.int .i64 V, .int .i64 gl, .int .i64 gh] 100)
        have hM2 := mkD_below hM1 B2
        have kf2 : Blk (w2.alloc (.cells #[.int .i64 V, .int .i64 gl, .int .i64 gh] 100)) w2.heap.size 100 [.int .i64 V, .int .i64 gl, .int .i64 gh] := ci_blk w2 #[.int .i64 V, .int .i64 gl, .int .i64 gh] 100
        have nf2 : ¬ mine (w2.alloc (.cells #[.int .i64 V, .int .i64 gl, .int .i64 gh] 100)) g w2.heap.size := fun q => by
          have := mine_lt hM1 ((mine_heap (B2.block g lg1)).1 q)
          have := b2.size
          omega
        have nk2 : ¬ mine (w2.alloc (.cells #[.int .i64 V, .int .i64 gl, .int .i64 gh] 100)) g w1.heap.size := fun q => nk1 ((mine_heap (B2.block g lg1)).1 q)
        have kb2 := kb1.below B2 kb1.lt
        have f2 := Lib.hid (fw1.out.trans (Frame.of_below B2 lg1))
        have bw2 := bw1.trans (B2.mono bw1.size)
        have C0 := Lib.hid (IH.out d gl b full m base g _ hM2 (Nat.le_trans hb bw2.size) G0.out R0 (by omega))
        clear hM2 hM1 kg1 rd1 FKW FK kb1 nk1 fw1 z0 z1 bw1 B2
        go_wp2_with fail
        refine (C0.out).mono ?_
        rintro e w3 ⟨x3, d3, full3, rfl, hM3, b3, R3, fr3⟩
        have F3 := Lib.hid (f2.out.trans fr3)
        have KB3 := frame_blk fr3 kb2 nk2
        have nk3 := (fr3.keep _ kb2.lt nk2).2
        have KF3 := frame_blk fr3 kf2 nf2
        have nf3 := (fr3.keep _ kf2.lt nf2).2
        have HR3 := Lib.hid R3
        have B3 := Lib.hid ((bw2.mono hb).trans b3)
        have y1 := KF3.cell 1
        have y2 := KF3.cell 2
        have y0 := KF3.cell 0
        have lf3 := KF3.lt
        simp only [List.getElem?_cons_zero, List.getElem?_cons_succ] at y0 y1 y2
        have R1 : d3.vars - rk d3 3 gh b < k := by rw [rk_ext G1.out R3.ext, R3.ext.vars]; have := RR1.out; have := EV.out; omega
        have C1 := Lib.hid (IH.out d3 gh b full3 (m + 3 ^ k) base g w3 hM3 (Nat.le_trans hb B3.out.size) (G1.out.ext R3.ext) R1 (by omega))
        clear hM3 C0 kb2 nk2 kf2 nf2 fr3 b3 f2 bw2 R3
        go_wp2_with fail
        refine (C1.out).mono ?_
        rintro e w6 ⟨x6, d6, full6, rfl, hM6, b6, R6, fr6⟩
        have F6 := Lib.hid (F3.out.trans fr6)
        have KB6 := frame_blk fr6 KB3 nk3
        have nk6 := (fr6.keep _ KB3.lt nk3).2
        have KF6 := frame_blk fr6 KF3 nf3
        have y0 := KF6.cell 0
        have lf6 := KF6.lt
        simp only [List.getElem?_cons_zero] at y0
        have HR6 := Lib.hid R6
        have B6 := Lib.hid (B3.out.trans b6)
        have hx3 := R6.ext.isP HR3.out.isP
        have SM : sml V ∧ sml x3 ∧ sml x6 := ⟨⟨v0, by have := ok.hi; omega⟩, place_sml hx3 hM6.ok, place_sml R6.isP hM6.ok⟩
        have AD := Lib.hid (addD_any d6 ⟨V, x3, x6⟩ full6 (m + 3 ^ k + 3 ^ k) base g w6 hM6 (Nat.le_trans hb B6.out.size) (fun hf => ran_fit ok gA HE.out HR3.out HR6.out hf) hx3 SM.1 SM.2.1 SM.2.2)
        clear R6 hM6 fr6 hx3 C1 KB3 nk3 KF3 nf3 KF6 b6 y1 y2
        go_wp2_with fail
        refine (AD.out).mono ?_
        rintro e w10 ⟨x10, d10, full10, rfl, hm10, b10, P10, fr10⟩
        have F10 := Lib.hid (F6.out.trans fr10)
        have KK10 := frame_blk fr10 KB6 nk6
        have RR := Lib.hid (ran_two ok gA HE.out HR3.out HR6.out P10)
        have B10 := Lib.hid (B6.out.trans b10)
        have SX := Lib.hid (place_sml P10.isP hm10.ok)
        have MM := Lib.hid (ran_memo ok gA RR.out)
        have OK10 := Lib.hid hm10.ok
        have FU10 := Lib.hid hm10.full_
        obtain ⟨A2, cc2, bp2, cp2, Dp2, br2, cr2, Dr2, kg2, ho2, hp2, c12, f12, hr2, c22, f22, hd2, hrow2⟩ := hm10.mem
        have lg10 := kg2.lt
        have z3 := kg2.cell 3
        have u0 := KK10.cell 0
        have u1 := KK10.cell 1
        have u2 := KK10.cell 2
        simp only [List.getElem?_cons_zero, List.getElem?_cons_succ] at z3 u0 u1 u2
        have UP := Lib.hid (fun (W : World) (e : W.heap = w10.heap) => (mp_of_heap hr2 e).update op_law Try.underlying125 (by unfold maxLen; omega) HKL.out (plainElem_int Try.underlying3 (a := x10) (int_wf SX.out.1 SX.out.2)))
        have KG2 := Lib.hid kg2
        have HO2 := Lib.hid ho2
        have HP2 := Lib.hid hp2
        have F12 := Lib.hid f12
        have F22 := Lib.hid f22
        have HRW := Lib.hid hrow2
        clear P10 kg2 ho2 hp2 f12 hr2 f22 hrow2 hm10 fr10
        obtain ⟨w11, hrun, hm11, hg11⟩ := UP.out w10.drew rfl
        go_wp2
        go_region_law (fail)
        all_goals
          go_wp2
          go_ret
          have nb : ∀ b, b ≠ br2 → some br2 ≠ some b := fun b h e => by injection e with e; exact h e.symm
          have kg11 := blk_on hg11 KG2.out rfl (nb g hd2.2.2.2.2.1)
          refine ⟨x10, d10, full10, rfl, ⟨OK10.out, FU10.out, A2, cc2, bp2, cp2, Dp2, br2, cr2 + 1, _, kg11, rw_on hg11 HO2.out rfl (fun e => (HRW.out br2 (mem_bl.2 e)).2.2 rfl), mp_on hg11 HP2.out rfl (nb bp2 hd2.2.2.2.2.2), c12, F12.out, hm11, by omega, fitR_new F22.out HKL.out MM.out, hd2, HRW.out⟩, ?_, RR.out, F10.out.trans (frame_of KG2.out kg11 hg11.size (fun b hb1 _ _ hb4 _ => hg11.block b hb1 (fun q => nb b hb4 (by first | exact q | exact q.symm))) (fun b _ e => e))⟩
          have q10 : Below base w w10.drew := ⟨B10.out.os, B10.out.tape, B10.out.output, B10.out.size, B10.out.block⟩
          exact q10.grown hg11 (Nat.le_trans hb B10.out.size) (fun b e => by injection e with e; have := hd2.2.2.1; omega)
      · have mx := f2.val 3 a b kl hkl hh
        have HH := Lib.hid hh
        have HRX := Lib.hid (fun y (mm : memo d full 3 a b y) => ran_known ok gA mm)
        have MX := Lib.hid mx
        have HM := Lib.hid (fun W (B : Below w.heap.size w W) j => mkD_of_heap (w' := (W.alloc (.cells #[.int .i64 3, .int .i64 a, .int .i64 b] 130)).drewN j) (mkD_below (mkD_more hM (Nat.le_add_right m (3 ^ k * 3))) (BA.out W B)) rfl)
        have LGW := Lib.hid lg
        clear e hM gA ok hm hk hv ha0 hb0 ha1 hb1 ev v0 v1 g0 g1 r0 r1 kg ho hp c1 f1 hr c2 f2 hd hrow hkl hh rd0 kg0 mx
        generalize hV : varP d a = V at *
        clear hV
        go_enter Try.func73, Try.ntmps73
        go_wp2_with fail
        refine (VA.out).mono ?_
        rintro e w1 ⟨rfl, b1⟩
        obtain ⟨y, hy, HL⟩ := HLK.out w1 b1
        rw [HH.out] at HL
        have HR : Hid (Ran d 3 a b full y d full) := Lib.hid (by
          obtain ⟨n, hn, mm⟩ := MX.out
          rw [hy] at hn
          injection hn with hn
          injection hn with _ hn
          subst hn
          exact HRX.out _ mm)
        have LK := fun k => HL ((w1.alloc (.cells #[.int .i64 3, .int .i64 a, .int .i64 b] 130)).drewN k) rfl
        have z2 := cell_below b1 (p := ⟨g, 3, none⟩) lg z2
        have lg := Nat.lt_of_lt_of_le lg b1.size
        have BK := BA.out w1 b1
        have HMj := Lib.hid (fun j => HM.out w1 b1 j)
        have BW1 := Lib.hid (fun k => (⟨BK.os, BK.tape, BK.output, BK.size, BK.block⟩ : Below w.heap.size w ((w1.alloc (.cells #[.int .i64 3, .int .i64 a, .int .i64 b] 130)).drewN k)))
        clear HL hy BK
        go_wp2
        go_quiet (fail)
        go_wp2
        go_ret
        exact ⟨y, d, full, rfl, HMj.out _, (BW1.out _).mono hb, HR.out, Frame.of_below (BW1.out _) LGW.out⟩

set_option maxHeartbeats 8000000 in
theorem fix1_any (k : Nat) : ∀ (d : Dg) (a b : Int) (full : Bool) (m base g : Nat) (w : World), MkD w base g d full m → base ≤ w.heap.size → fitA d 4 a b → d.vars - rk d 4 a b < k → m + 3 ^ k ≤ 100000000 →
    Calls Try.prog 73 #[.pointer (some ⟨g, 0, none⟩), .int .i64 a, .int .i64 b, .int .i64 1] w (GivesRun base g d 4 a b full (m + 3 ^ k) w) := by
  induction k with
  | zero => intro d a b full m base g w hM _ gA hk _; have := rk_le hM.ok gA; omega
  | succ k ih =>
    intro d a b full m base g w hM hb gA hk hm
    have IH := Lib.hid ih
    clear ih
    have ok := hM.ok
    have h3 : 0 < 3 ^ k := Nat.pow_pos (by decide)
    rw [Nat.pow_succ] at hm ⊢
    have pa := gA.pa
    have bv := gA.v1 (by omega)
    obtain ⟨A0, cc0, bp0, br0, kg0, rd0, few0, lg0, hbg0⟩ := mkD_row hM
    have VA := Lib.hid (variable_any d A0 d.forks.length cc0 a w rd0 (by omega) (isP_iff.1 pa).2)
    have z0 := kg0.cell 0
    have z1 := kg0.cell 1
    simp only [List.getElem?_cons_zero, List.getElem?_cons_succ] at z0 z1
    cases e : stp d 4 a b with
    | val y =>
      have HR := Lib.hid (ran_val ok gA full e)
      obtain ⟨hge, rfl⟩ := fix_val (x := 1) (by decide) e
      have AL := Lib.hid (fun W (B : Below w.heap.size w W) => along_any d A0 d.forks.length cc0 a b 1 W (Mem.rd_on rd0 B) (by omega) (isP_iff.1 pa).2 bv)
      have HM := Lib.hid (fun W (B : Below w.heap.size w W) => mkD_below (mkD_more hM (Nat.le_add_right m (3 ^ k * 3))) B)
      have LG := Lib.hid lg0
      clear hM gA e ok hm hk rd0 kg0 pa
      generalize atP d a b 1 = y at *
      generalize varP d a = V at *
      go_enter Try.func73, Try.ntmps73
      go_wp2_with fail
      refine (VA.out).mono ?_
      rintro e w1 ⟨rfl, b1⟩
      have z0 := cell_below b1 (p := ⟨g, 0, none⟩) LG.out z0
      have z1 := cell_below b1 (p := ⟨g, 1, none⟩) LG.out z1
      go_wp2_with fail
      refine (AL.out _ b1).mono ?_
      rintro e w2 ⟨rfl, b2⟩
      have b12 := b1.trans (b2.mono b1.size)
      go_wp2
      go_ret
      exact ⟨y, d, full, rfl, HM.out _ b12, b12.mono hb, HR.out, Frame.of_below b12 LG.out⟩
    | two v a0 b0 a1 b1 =>
      obtain ⟨hlt, hv, ha0, hb0, ha1, hb1⟩ := fix_two (x := 1) (by decide) e
      obtain ⟨ev, v0, v1, g0, g1, r0, r1⟩ := stp_two ok gA e
      obtain ⟨s1, s2, s3⟩ := fitA_sml gA ok
      obtain ⟨kl, hkl⟩ := op_key s1 s2 s3
      obtain ⟨A, cc, bp, cp, Dp, br, cr, Dr, kg, ho, hp, c1, f1, hr, c2, f2, hd, hrow⟩ := hM.mem
      have lg := kg.lt
      have z2 := kg.cell 3
      simp only [List.getElem?_cons_zero, List.getElem?_cons_succ] at z2
      have BA := Lib.hid (fun W (B : Below w.heap.size w W) => B.trans ((below_alloc W (.cells #[.int .i64 4, .int .i64 a, .int .i64 b] 130)).mono B.size))
      have HLK := Lib.hid (fun W (B : Below w.heap.size w W) => mp_look (mp_below hr (BA.out W B)) op_law Try.underlying125 hkl)
      have HMW := Lib.hid (fun W (B : Below w.heap.size w W) k => mkD_of_heap (w' := (W.alloc (.cells #[.int .i64 4, .int .i64 a, .int .i64 b] 130)).drewN k) (mkD_below hM (BA.out W B)) rfl)
      cases hh : Maps.has Dr kl
      · have HKL := Lib.hid hkl
        have NK := Lib.hid (fun b (hbb : w.heap.size ≤ b) (q : mine w g b) => show False from by have := mine_lt hM q; omega)
        have HH := Lib.hid hh
        have a2 : 2 ≤ a := by
          refine Int.not_lt.1 fun h2 => hlt ?_
          unfold varP
          rw [if_pos h2]; omega
        have LGW := Lib.hid lg
        have evv : varP d a = (fkA d a).v := if_neg (by omega)
        subst ha0
        subst hb0
        subst ha1
        subst hb1
        subst hv
        have R0 : d.vars - rk d 4 (fkA d a).lo b < k := by omega
        have HE := Lib.hid e
        have EV := Lib.hid ev
        have pl := g0.pa
        have FK := Lib.hid (fun (W : World) A1 cc1 (rd1 : Mem.rd W W.heap.size [.slice A1 d.forks.length cc1] d.forks) => fork_any d A1 d.forks.length cc1 a W rd1 (by omega) a2 (isP_iff.1 pa).2)
        have G0 := Lib.hid g0
        have G1 := Lib.hid g1
        have RR1 := Lib.hid r1
        have EVV := Lib.hid evv
        clear e ev g0 g1 r0 r1 hkl hh hM kg ho hp c1 f1 hr c2 f2 hd hrow rd0 kg0
        generalize hV : varP d a = V at *
        generalize hG : fkA d a = G at *
        obtain ⟨gv, gl, gh⟩ := G
        dsimp only [Fk.u] at *
        have evv := EVV.out
        subst evv
        clear hG hV
        go_enter Try.func73, Try.ntmps73
        go_wp2_with fail
        refine (VA.out).mono ?_
        rintro e w1 ⟨rfl, b1⟩
        obtain ⟨y, hy, HL⟩ := HLK.out w1 b1
        rw [HH.out] at HL
        have LK := fun k => HL ((w1.alloc (.cells #[.int .i64 4, .int .i64 a, .int .i64 b] 130)).drewN k) rfl
        have z2 := cell_below b1 (p := ⟨g, 3, none⟩) lg z2
        have lg := Nat.lt_of_lt_of_le lg b1.size
        have HM1 := Lib.hid (fun k => HMW.out w1 b1 k)
        have KB1 := Lib.hid (fun k => blk_of_heap (w' := (w1.alloc (.cells #[.int .i64 4, .int .i64 a, .int .i64 b] 130)).drewN k) (ci_blk w1 #[.int .i64 4, .int .i64 a, .int .i64 b] 130) rfl)
        have BK := BA.out w1 b1
        have BW1 := Lib.hid (fun k => (⟨BK.os, BK.tape, BK.output, BK.size, BK.block⟩ : Below w.heap.size w ((w1.alloc (.cells #[.int .i64 4, .int .i64 a, .int .i64 b] 130)).drewN k)))
        have NK1 := NK.out w1.heap.size b1.size
        clear BK HL hy
        go_wp2
        go_quiet (fail)
        go_upto_region 9 with fail
        have hM1 := HM1.out nq
        have kb1 := KB1.out nq
        have bw1 := BW1.out nq
        have nk1 : ¬ mine ((w1.alloc (.cells #[.int .i64 4, .int .i64 a, .int .i64 b] 130)).drewN nq) g w1.heap.size := fun q => NK1 ((mine_heap (bw1.block g LGW.out)).1 q)
        have fw1 := Lib.hid (Frame.of_below bw1 LGW.out)
        clear HM1 KB1 BW1 LK z2 z0 z1
        generalize (w1.alloc (.cells #[.int .i64 4, .int .i64 a, .int .i64 b] 130)).drewN nq = W1 at hM1 kb1 bw1 nk1 fw1 ⊢
        obtain ⟨A1, cc1, bp1, br1, kg1, rd1, few1, lg1, hbg1⟩ := mkD_row hM1
        have z0 := kg1.cell 0
        have z1 := kg1.cell 1
        simp only [List.getElem?_cons_zero, List.getElem?_cons_succ] at z0 z1
        have FKW := Lib.hid (FK.out W1 A1 cc1 rd1)
        go_wp2_with fail
        refine (FKW.out).mono ?_
        rintro e w2 ⟨rfl, b2⟩
        have B2 := b2.alloc b2.size (.cells #[.int .i64 V, .int .i64 gl, .int .i64 gh] 100)
        have hM2 := mkD_below hM1 B2
        have kf2 : Blk (w2.alloc (.cells #[.int .i64 V, .int .i64 gl, .int .i64 gh] 100)) w2.heap.size 100 [.int .i64 V, .int .i64 gl, .int .i64 gh] := ci_blk w2 #[.int .i64 V, .int .i64 gl, .int .i64 gh] 100
        have nf2 : ¬ mine (w2.alloc (.cells #[.int .i64 V, .int .i64 gl, .int .i64 gh] 100)) g w2.heap.size := fun q => by
          have := mine_lt hM1 ((mine_heap (B2.block g lg1)).1 q)
          have := b2.size
          omega
        have nk2 : ¬ mine (w2.alloc (.cells #[.int .i64 V, .int .i64 gl, .int .i64 gh] 100)) g w1.heap.size := fun q => nk1 ((mine_heap (B2.block g lg1)).1 q)
        have kb2 := kb1.below B2 kb1.lt
        have f2 := Lib.hid (fw1.out.trans (Frame.of_below B2 lg1))
        have bw2 := bw1.trans (B2.mono bw1.size)
        have C0 := Lib.hid (IH.out d gl b full m base g _ hM2 (Nat.le_trans hb bw2.size) G0.out R0 (by omega))
        clear hM2 hM1 kg1 rd1 FKW FK kb1 nk1 fw1 z0 z1 bw1 B2
        go_wp2_with fail
        refine (C0.out).mono ?_
        rintro e w3 ⟨x3, d3, full3, rfl, hM3, b3, R3, fr3⟩
        have F3 := Lib.hid (f2.out.trans fr3)
        have KB3 := frame_blk fr3 kb2 nk2
        have nk3 := (fr3.keep _ kb2.lt nk2).2
        have KF3 := frame_blk fr3 kf2 nf2
        have nf3 := (fr3.keep _ kf2.lt nf2).2
        have HR3 := Lib.hid R3
        have B3 := Lib.hid ((bw2.mono hb).trans b3)
        have y1 := KF3.cell 1
        have y2 := KF3.cell 2
        have y0 := KF3.cell 0
        have lf3 := KF3.lt
        simp only [List.getElem?_cons_zero, List.getElem?_cons_succ] at y0 y1 y2
        have R1 : d3.vars - rk d3 4 gh b < k := by rw [rk_ext G1.out R3.ext, R3.ext.vars]; have := RR1.out; have := EV.out; omega
        have C1 := Lib.hid (IH.out d3 gh b full3 (m + 3 ^ k) base g w3 hM3 (Nat.le_trans hb B3.out.size) (G1.out.ext R3.ext) R1 (by omega))
        clear hM3 C0 kb2 nk2 kf2 nf2 fr3 b3 f2 bw2 R3
        go_wp2_with fail
        refine (C1.out).mono ?_
        rintro e w6 ⟨x6, d6, full6, rfl, hM6, b6, R6, fr6⟩
        have F6 := Lib.hid (F3.out.trans fr6)
        have KB6 := frame_blk fr6 KB3 nk3
        have nk6 := (fr6.keep _ KB3.lt nk3).2
        have KF6 := frame_blk fr6 KF3 nf3
        have y0 := KF6.cell 0
        have lf6 := KF6.lt
        simp only [List.getElem?_cons_zero] at y0
        have HR6 := Lib.hid R6
        have B6 := Lib.hid (B3.out.trans b6)
        have hx3 := R6.ext.isP HR3.out.isP
        have SM : sml V ∧ sml x3 ∧ sml x6 := ⟨⟨v0, by have := ok.hi; omega⟩, place_sml hx3 hM6.ok, place_sml R6.isP hM6.ok⟩
        have AD := Lib.hid (addD_any d6 ⟨V, x3, x6⟩ full6 (m + 3 ^ k + 3 ^ k) base g w6 hM6 (Nat.le_trans hb B6.out.size) (fun hf => ran_fit ok gA HE.out HR3.out HR6.out hf) hx3 SM.1 SM.2.1 SM.2.2)
        clear R6 hM6 fr6 hx3 C1 KB3 nk3 KF3 nf3 KF6 b6 y1 y2
        go_wp2_with fail
        refine (AD.out).mono ?_
        rintro e w10 ⟨x10, d10, full10, rfl, hm10, b10, P10, fr10⟩
        have F10 := Lib.hid (F6.out.trans fr10)
        have KK10 := frame_blk fr10 KB6 nk6
        have RR := Lib.hid (ran_two ok gA HE.out HR3.out HR6.out P10)
        have B10 := Lib.hid (B6.out.trans b10)
        have SX := Lib.hid (place_sml P10.isP hm10.ok)
        have MM := Lib.hid (ran_memo ok gA RR.out)
        have OK10 := Lib.hid hm10.ok
        have FU10 := Lib.hid hm10.full_
        obtain ⟨A2, cc2, bp2, cp2, Dp2, br2, cr2, Dr2, kg2, ho2, hp2, c12, f12, hr2, c22, f22, hd2, hrow2⟩ := hm10.mem
        have lg10 := kg2.lt
        have z3 := kg2.cell 3
        have u0 := KK10.cell 0
        have u1 := KK10.cell 1
        have u2 := KK10.cell 2
        simp only [List.getElem?_cons_zero, List.getElem?_cons_succ] at z3 u0 u1 u2
        have UP := Lib.hid (fun (W : World) (e : W.heap = w10.heap) => (mp_of_heap hr2 e).update op_law Try.underlying125 (by unfold maxLen; omega) HKL.out (plainElem_int Try.underlying3 (a := x10) (int_wf SX.out.1 SX.out.2)))
        have KG2 := Lib.hid kg2
        have HO2 := Lib.hid ho2
        have HP2 := Lib.hid hp2
        have F12 := Lib.hid f12
        have F22 := Lib.hid f22
        have HRW := Lib.hid hrow2
        clear P10 kg2 ho2 hp2 f12 hr2 f22 hrow2 hm10 fr10
        obtain ⟨w11, hrun, hm11, hg11⟩ := UP.out w10.drew rfl
        go_wp2
        go_region_law (fail)
        all_goals
          go_wp2
          go_ret
          have nb : ∀ b, b ≠ br2 → some br2 ≠ some b := fun b h e => by injection e with e; exact h e.symm
          have kg11 := blk_on hg11 KG2.out rfl (nb g hd2.2.2.2.2.1)
          refine ⟨x10, d10, full10, rfl, ⟨OK10.out, FU10.out, A2, cc2, bp2, cp2, Dp2, br2, cr2 + 1, _, kg11, rw_on hg11 HO2.out rfl (fun e => (HRW.out br2 (mem_bl.2 e)).2.2 rfl), mp_on hg11 HP2.out rfl (nb bp2 hd2.2.2.2.2.2), c12, F12.out, hm11, by omega, fitR_new F22.out HKL.out MM.out, hd2, HRW.out⟩, ?_, RR.out, F10.out.trans (frame_of KG2.out kg11 hg11.size (fun b hb1 _ _ hb4 _ => hg11.block b hb1 (fun q => nb b hb4 (by first | exact q | exact q.symm))) (fun b _ e => e))⟩
          have q10 : Below base w w10.drew := ⟨B10.out.os, B10.out.tape, B10.out.output, B10.out.size, B10.out.block⟩
          exact q10.grown hg11 (Nat.le_trans hb B10.out.size) (fun b e => by injection e with e; have := hd2.2.2.1; omega)
      · have mx := f2.val 4 a b kl hkl hh
        have HH := Lib.hid hh
        have HRX := Lib.hid (fun y (mm : memo d full 4 a b y) => ran_known ok gA mm)
        have MX := Lib.hid mx
        have HM := Lib.hid (fun W (B : Below w.heap.size w W) j => mkD_of_heap (w' := (W.alloc (.cells #[.int .i64 4, .int .i64 a, .int .i64 b] 130)).drewN j) (mkD_below (mkD_more hM (Nat.le_add_right m (3 ^ k * 3))) (BA.out W B)) rfl)
        have LGW := Lib.hid lg
        clear e hM gA ok hm hk hv ha0 hb0 ha1 hb1 ev v0 v1 g0 g1 r0 r1 kg ho hp c1 f1 hr c2 f2 hd hrow hkl hh rd0 kg0 mx
        generalize hV : varP d a = V at *
        clear hV
        go_enter Try.func73, Try.ntmps73
        go_wp2_with fail
        refine (VA.out).mono ?_
        rintro e w1 ⟨rfl, b1⟩
        obtain ⟨y, hy, HL⟩ := HLK.out w1 b1
        rw [HH.out] at HL
        have HR : Hid (Ran d 4 a b full y d full) := Lib.hid (by
          obtain ⟨n, hn, mm⟩ := MX.out
          rw [hy] at hn
          injection hn with hn
          injection hn with _ hn
          subst hn
          exact HRX.out _ mm)
        have LK := fun k => HL ((w1.alloc (.cells #[.int .i64 4, .int .i64 a, .int .i64 b] 130)).drewN k) rfl
        have z2 := cell_below b1 (p := ⟨g, 3, none⟩) lg z2
        have lg := Nat.lt_of_lt_of_le lg b1.size
        have BK := BA.out w1 b1
        have HMj := Lib.hid (fun j => HM.out w1 b1 j)
        have BW1 := Lib.hid (fun k => (⟨BK.os, BK.tape, BK.output, BK.size, BK.block⟩ : Below w.heap.size w ((w1.alloc (.cells #[.int .i64 4, .int .i64 a, .int .i64 b] 130)).drewN k)))
        clear HL hy BK
        go_wp2
        go_quiet (fail)
        go_wp2
        go_ret
        exact ⟨y, d, full, rfl, HMj.out _, (BW1.out _).mono hb, HR.out, Frame.of_below (BW1.out _) LGW.out⟩
end Go.Proofs.Ytnpdeliaefjmlaa
