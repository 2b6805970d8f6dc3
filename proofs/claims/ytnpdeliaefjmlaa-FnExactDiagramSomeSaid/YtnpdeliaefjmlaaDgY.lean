/- Diagrams: a variable that is fixed, in the model. -/
import Derived.Test.YtnpdeliaefjmlaaDgH
namespace Go.Proofs.Ytnpdeliaefjmlaa
open Go.RowKit
set_option maxRecDepth 100000

theorem fixM_val {d : Dg} {x a b y : Int} (h : 0 ≤ x) (e : stp d (3 + x) a b = .val y) : b ≤ varP d a ∧ y = atP d a b x := by
  unfold stp at e
  rw [if_neg (by omega)] at e
  by_cases c : b ≤ varP d a
  · rw [if_pos c] at e
    injection e with e
    exact ⟨c, by rw [← e, show 3 + x - 3 = x by omega]⟩
  · rw [if_neg c] at e; cases e
theorem fixM_two {d : Dg} {x a b v a0 b0 a1 b1 : Int} (h : 0 ≤ x) (e : stp d (3 + x) a b = .two v a0 b0 a1 b1) : ¬ b ≤ varP d a ∧ varP d a = v ∧ (fkA d a).lo = a0 ∧ b = b0 ∧ (fkA d a).hi = a1 ∧ b = b1 := by
  unfold stp at e
  rw [if_neg (by omega)] at e
  by_cases c : b ≤ varP d a
  · rw [if_pos c] at e; cases e
  · rw [if_neg c] at e
    injection e with e1 e2 e3 e4 e5
    exact ⟨c, e1, e2, e3, e4, e5⟩
/-- The call gives the diagram as it was, and a place. -/
def GivesSm (m : Int) (A : Option Addr) (n c : Nat) (x : Int) (w : World) (e : Ending) (w' : World) : Prop := e = .returned (.tuple #[.agg #[.int .i64 m, .slice A n c], .int .i64 x]) ∧ Below w.heap.size w w'
theorem sm_de {d : Dg} {A : Option Addr} {c : Nat} {x : Int} {base : Nat} {w w' : World} {e : Ending} (ho : w.ownsRow base 100 3 (.slice A d.forks.length c) d.forks.length (fl d.forks)) (hx : 0 ≤ x) (h : GivesSm d.vars A d.forks.length c x w e w') :
    GivesDE base (bl (.slice A d.forks.length c)) (.slice A d.forks.length c) d.forks.length w (d, x) e w' := by
  obtain ⟨rfl, b⟩ := h
  exact ⟨Only.of_below b _, KeptD.of_below b _ _, .inr ⟨hx, A, c, rfl, own_below ho b, fun y hy => .inl hy⟩⟩
set_option maxHeartbeats 4000000 in
theorem l8Fix_val (d : Dg) (A : Option Addr) (n c : Nat) (x a b : Int) (w : World) (h : Mem.rd w w.heap.size [.slice A n c] d.forks) (hn : n ≤ 100000) (ha : a < 2 + n) (hb : b < d.vars) (hge : b ≤ varP d a) :
    Calls Try.prog 66 #[.agg #[.int .i64 d.vars, .slice A n c], .int .i64 a, .int .i64 b, .int .i64 x] w (GivesSm d.vars A n c (atP d a b x) w) := by
  have VA := Lib.hid (fun W (B : Below w.heap.size w W) => l8Var_any d A n c a W (Mem.rd_on h B) hn ha)
  have BX := Lib.hid (two_boxes w #[.int .i64 d.vars, .slice A n c] #[.int .i64 0, .slice none 0 0] 46 46)
  have AT := Lib.hid (fun W (B : Below w.heap.size w W) => l8At_any d A n c a b x W (Mem.rd_on h B) hn ha hb)
  have B0 : Below w.heap.size w ((w.alloc (.cells #[.int .i64 d.vars, .slice A n c] 46)).alloc (.cells #[.int .i64 0, .slice none 0 0] 46)) := (below_alloc w _).alloc (by simp) _
  by_cases hgt : b < varP d a
  · have e1 : atP d a b x = a := if_pos (by omega)
    rw [e1]
    clear e1 AT h
    generalize varP d a = V at *
    obtain ⟨m, fs⟩ := d
    dsimp only at *
    go_enter Try.func66, Try.ntmps66
    go_wp2_with fail
    refine (VA.out _ B0).mono ?_
    rintro e w3 ⟨rfl, b3⟩
    obtain ⟨B3, k0, k1⟩ := BX.out _ b3
    have x0 := k0.cell 0
    have x1 := k0.cell 1
    have f0 := k1.frozen 0
    have f1 := k1.frozen 1
    have y0 := k1.cell 0
    have y1 := k1.cell 1
    simp only [List.getElem?_cons_zero, List.getElem?_cons_succ] at x0 x1 y0 y1
    have KR := Lib.hid k1
    clear k1
    go_wp2
    have K2 := (KR.out.set 0 (.int .i64 m)).set 1 (.slice A n c)
    have b8 := (B3.setCell (p := ⟨w.heap.size + 1, 0, none⟩) (Nat.le_succ _) (.int .i64 m)).setCell (p := ⟨w.heap.size + 1, 1, none⟩) (Nat.le_succ _) (.slice A n c)
    generalize (w3.setCell ⟨w.heap.size + 1, 0, none⟩ (.int .i64 m)).setCell ⟨w.heap.size + 1, 1, none⟩ (.slice A n c) = w8 at K2 b8 ⊢
    have r0 := K2.cell 0
    have r1 := K2.cell 1
    simp only [List.set_cons_zero, List.set_cons_succ, List.getElem?_cons_zero, List.getElem?_cons_succ] at r0 r1
    exact bodyPost_ret (v := .tuple #[.agg #[.int .i64 m, .slice A n c], .int .i64 a]) (by simp [results, Try.results66, go_sem, r0, r1]) rfl ⟨rfl, b8⟩
  · have e1 : varP d a = b := by omega
    clear h
    rw [e1] at VA hgt
    have gt : (b == b) = true := by simp
    generalize atP d a b x = R at *
    clear e1 hge
    obtain ⟨m, fs⟩ := d
    dsimp only at *
    go_enter Try.func66, Try.ntmps66
    go_wp2_with fail
    refine (VA.out _ B0).mono ?_
    rintro e w3 ⟨rfl, b3⟩
    obtain ⟨B3, k0, k1⟩ := BX.out _ b3
    have x0 := k0.cell 0
    have x1 := k0.cell 1
    simp only [List.getElem?_cons_zero, List.getElem?_cons_succ] at x0 x1
    go_wp2_with fail
    refine (VA.out _ B3).mono ?_
    rintro e w4 ⟨rfl, c4⟩
    have b4 := b3.trans (c4.mono b3.size)
    obtain ⟨B4, k0, k1⟩ := BX.out _ b4
    have x0 := k0.cell 0
    have x1 := k0.cell 1
    have f0 := k1.frozen 0
    have f1 := k1.frozen 1
    have y0 := k1.cell 0
    have y1 := k1.cell 1
    have l0 := k0.lt
    have l1 := k1.lt
    simp only [List.getElem?_cons_zero, List.getElem?_cons_succ] at x0 x1 y0 y1
    have KR := Lib.hid k1
    clear k0 k1
    have AT4 := Lib.hid (AT.out w4.drew ⟨B4.os, B4.tape, B4.output, B4.size, B4.block⟩)
    go_wp2
    go_region_held3 (fun w' => w'.cell? ⟨w.heap.size, 0, none⟩ = some (.int .i64 m) ∧ w'.cell? ⟨w.heap.size, 1, none⟩ = some (.slice A n c)) (go_keep)
      (first
        | (go_at_call 103; refine (AT4.out).mono ?_; rintro e w5 ⟨rfl, c5⟩
           have c5' : Below w4.heap.size w4 w5 := ⟨c5.os, c5.tape, c5.output, c5.size, c5.block⟩
           have x0 := cell_below c5' (p := ⟨w.heap.size, 0, none⟩) l0 x0
           have x1 := cell_below c5' (p := ⟨w.heap.size, 1, none⟩) l0 x1
           have KR5 := Lib.hid (KR.out.below c5' l1)
           have f0 := KR5.out.frozen 0
           have f1 := KR5.out.frozen 1
           have y0 := KR5.out.cell 0
           have y1 := KR5.out.cell 1
           simp only [List.getElem?_cons_zero, List.getElem?_cons_succ] at y0 y1
           have b5 := B4.trans (c5'.mono B4.size)))
    all_goals
      go_wp2
      have K2 := (KR5.out.set 0 (.int .i64 m)).set 1 (.slice A n c)
      have b8 := (b5.setCell (p := ⟨w.heap.size + 1, 0, none⟩) (Nat.le_succ _) (.int .i64 m)).setCell (p := ⟨w.heap.size + 1, 1, none⟩) (Nat.le_succ _) (.slice A n c)
      generalize (w5.setCell ⟨w.heap.size + 1, 0, none⟩ (.int .i64 m)).setCell ⟨w.heap.size + 1, 1, none⟩ (.slice A n c) = w8 at K2 b8 ⊢
      have r0 := K2.cell 0
      have r1 := K2.cell 1
      simp only [List.set_cons_zero, List.set_cons_succ, List.getElem?_cons_zero, List.getElem?_cons_succ] at r0 r1
      exact bodyPost_ret (v := .tuple #[.agg #[.int .i64 m, .slice A n c], .int .i64 R]) (by simp [results, Try.results66, go_sem, r0, r1]) rfl ⟨rfl, b8⟩

set_option maxHeartbeats 8000000 in
theorem l8Fix_any (x : Int) (hx0 : 0 ≤ x) (k : Nat) : ∀ (d : Dg) (A : Option Addr) (c : Nat) (a b : Int) (base : Nat) (w : World), w.ownsRow base 100 3 (.slice A d.forks.length c) d.forks.length (fl d.forks) → base ≤ w.heap.size → d.Ok → fitA d (3 + x) a b → d.vars - rk d (3 + x) a b < k →
    Calls Try.prog 66 #[.agg #[.int .i64 d.vars, .slice A d.forks.length c], .int .i64 a, .int .i64 b, .int .i64 x] w (GivesDE base (bl (.slice A d.forks.length c)) (.slice A d.forks.length c) d.forks.length w (runF (3 + x) k d a b)) := by
  induction k with
  | zero => intro d A c a b base w _ _ ok g hk; have := rk_le ok g; omega
  | succ k ih =>
    intro d A c a b base w ho hb ok g hk
    have few := ok.few
    have pa := isP_iff.1 g.pa
    have bv := g.v1 (by omega)
    cases e : stp d (3 + x) a b with
    | val y =>
      rw [runF_val e]
      have hy := (isP_iff.1 (stp_val ok g e).1).1
      obtain ⟨hge, rfl⟩ := fixM_val hx0 e
      exact (l8Fix_val d A d.forks.length c x a b w (rd_forks ho rfl (by omega)) (by omega) pa.2 bv hge).mono fun _ _ h => sm_de ho hy h
    | two v a0 b0 a1 b1 =>
      have IH := Lib.hid ih
      clear ih
      have HR2 := Lib.hid (runF_two (k := k) e)
      obtain ⟨hlt, hv, ha0, hb0, ha1, hb1⟩ := fixM_two hx0 e
      obtain ⟨ev, v0, v1, g0, g1, r0, r1⟩ := stp_two ok g e
      have a2 : 2 ≤ a := by
        refine Int.not_lt.1 fun h2 => hlt ?_
        unfold varP
        rw [if_pos h2]; omega
      have evv : varP d a = (fkA d a).v := if_neg (by omega)
      obtain ⟨j, rfl⟩ : ∃ j : Nat, a = 2 + (j : Int) := ⟨(a - 2).toNat, by omega⟩
      have hj : j < d.forks.length := by omega
      have ef : fkA d (2 + (j : Int)) = el d.forks j := by unfold fkA; rw [show (2 + (j : Int) - 2).toNat = j by omega]
      have w1 : IntKind.i64.wrap (2 + (j : Int) - 2) = (j : Int) := by rw [show 2 + (j : Int) - 2 = j by omega]; exact IntWalk.i64_in _ (by omega)
      subst ha0
      subst hb0
      subst ha1
      subst hb1
      subst hv
      have R0 : d.vars - rk d (3 + x) (fkA d (2 + (j : Int))).lo b < k := by omega
      have HRD := Lib.hid (rd_forks ho rfl (by omega))
      have HO := Lib.hid ho
      have NB := Lib.hid (fun y (hy : w.heap.size ≤ y) (q : y ∈ bl (.slice A d.forks.length c)) => show False from by have := (ho.lt y (mem_bl.1 q)).2; omega)
      have BX := Lib.hid (two_boxes w #[.int .i64 d.vars, .slice A d.forks.length c] #[.int .i64 0, .slice none 0 0] 46 46)
      have VA := Lib.hid (fun W (B : Below w.heap.size w W) => l8Var_any d A d.forks.length c (2 + (j : Int)) W (Mem.rd_on HRD.out B) (by omega) pa.2)
      have FA := Lib.hid (fun W (B : Below w.heap.size w W) => fk_at (Mem.rd_below HRD.out B) hj)
      have OK := Lib.hid ok
      have HG := Lib.hid g
      have G0 := Lib.hid g0
      have G1 := Lib.hid g1
      have RR1 := Lib.hid r1
      have EV := Lib.hid ev
      have HK := Lib.hid hk
      have HR0 := Lib.hid R0
      have B0 : Below w.heap.size w ((w.alloc (.cells #[.int .i64 d.vars, .slice A d.forks.length c] 46)).alloc (.cells #[.int .i64 0, .slice none 0 0] 46)) := (below_alloc w _).alloc (by simp) _
      have hne : (varP d (2 + (j : Int)) == b) = false := by simp; omega
      clear e ev ok g g0 g1 r0 r1 hk ho R0
      have EW := Lib.hid evv
      clear evv
      rw [ef] at HR2 G0 G1 RR1 HR0 EW
      generalize hV : varP d (2 + (j : Int)) = V at *
      clear hV ef
      generalize hG : el d.forks j = G at *
      clear hG
      obtain ⟨gv, gl, gh⟩ := G
      dsimp only at *
      have evv := EW.out
      subst evv
      go_enter Try.func66, Try.ntmps66
      go_wp2_with fail
      refine (VA.out _ B0).mono ?_
      rintro e w3 ⟨rfl, b3⟩
      obtain ⟨B3, k0, k1⟩ := BX.out _ b3
      have x0 := k0.cell 0
      have x1 := k0.cell 1
      simp only [List.getElem?_cons_zero, List.getElem?_cons_succ] at x0 x1
      go_wp2_with fail
      refine (VA.out _ B3).mono ?_
      rintro e w4 ⟨rfl, c4⟩
      have b4 := b3.trans (c4.mono b3.size)
      obtain ⟨B4, k0, k1⟩ := BX.out _ b4
      have x0 := k0.cell 0
      have x1 := k0.cell 1
      simp only [List.getElem?_cons_zero, List.getElem?_cons_succ] at x0 x1
      obtain ⟨ad, rfl, hbl, d0, d1, d2⟩ := FA.out _ B4
      have hbl' : (ad.add (j * 3)).block < w4.heap.size := by rw [add_block]; have := B4.size; omega
      have l0 := k0.lt
      have K0 := Lib.hid k0
      have K1 := Lib.hid k1
      clear k0 k1 b3 B3 c4
      go_upto_region 6 with fail
      have B5 := below_alloc w4 (.cells #[.int .i64 V, .int .i64 gl, .int .i64 gh] 100)
      have BW := B4.trans (B5.mono B4.size)
      have kf := ci_blk w4 #[.int .i64 V, .int .i64 gl, .int .i64 gh] 100
      have k0 := K0.out.alloc (.cells #[.int .i64 V, .int .i64 gl, .int .i64 gh] 100)
      have k1 := K1.out.alloc (.cells #[.int .i64 V, .int .i64 gl, .int .i64 gh] 100)
      have hF : w.heap.size + 1 < w4.heap.size := K1.out.lt
      clear K0 K1 B5 d0 d1 d2 hbl hbl' VA FA x0 x1
      generalize w4.alloc (.cells #[.int .i64 V, .int .i64 gl, .int .i64 gh] 100) = W5 at *
      generalize w4.heap.size = F at *
      have x0 := k0.cell 0
      have x1 := k0.cell 1
      have q1 := kf.cell 1
      have l0 := k0.lt
      have l1 := k1.lt
      have lf := kf.lt
      simp only [List.getElem?_cons_zero, List.getElem?_cons_succ] at x0 x1 q1
      have K0 := Lib.hid k0
      have K1 := Lib.hid k1
      have KF := Lib.hid kf
      clear k0 k1 kf
      have C0 := Lib.hid (IH.out d (some ad) c gl b base W5 (own_below HO.out BW) (Nat.le_trans hb BW.size) OK.out G0.out HR0.out)
      go_wp2_with fail
      refine (C0.out).mono ?_
      rintro e w9 hG
      obtain ⟨m1, A1, n1, c1, xx, rfl, on9, kd9, on1⟩ := gives_de_one rfl hG
      clear hG
      have kk0 := only_blk on9 K0.out (fun q => NB.out _ (Nat.le_refl _) q)
      have kk1 := only_blk on9 K1.out (fun q => NB.out _ (Nat.le_succ _) q)
      have kkf := only_blk on9 KF.out (fun q => NB.out _ (by omega) q)
      have HYF := Lib.hid (oneD_far on1 lf (fun q => NB.out _ (by omega) q))
      have ON9 := (Only.of_below BW (bl (.slice (some ad) d.forks.length c))).trans on9
      have KD9 := (KeptD.of_below BW (.slice (some ad) d.forks.length c) d.forks.length).trans kd9 BW.size (Nat.le_refl _) (fun x e => .inl e)
      have OW9 : OneD base (.slice (some ad) d.forks.length c) (w.heap.size + 2) (runF (3 + x) k d gl b) m1 A1 n1 c1 xx w9 := oneD_from on1 l1
      have lw9 := kk0.lt
      go_upto_region 7 with fail
      have H := Lib.hid (half_new kk1.lt kk0 kk1 ON9 KD9 OW9)
      have KF10 := Lib.hid (kkf.alloc (.cells #[.int .i64 m1, .slice A1 n1 c1] 46))
      clear kk0 kk1 kkf ON9 KD9 OW9 on9 kd9 on1 C0 K0 K1 KF x0 x1 q1 l0 l1 lw9 lf
      generalize w9.alloc (.cells #[.int .i64 m1, .slice A1 n1 c1] 46) = w10 at *
      generalize w9.heap.size = h at *
      have k0 := H.out.box
      have k1 := H.out.res
      have kh := H.out.one
      have x0 := k0.cell 0
      have x1 := k0.cell 1
      have u0 := k1.cell 0
      have u1 := k1.cell 1
      have uf0 := k1.frozen 0
      have uf1 := k1.frozen 1
      have s0 := k0.lt
      have s1 := k1.lt
      simp only [List.getElem?_cons_zero, List.getElem?_cons_succ] at x0 x1 u0 u1
      have HL := Lib.hid H.out.only
      have HKE := Lib.hid H.out.kept
      have KK1 := Lib.hid k1
      rcases H.out.own with ⟨hx, hr⟩ | ⟨hx, ex, em, en, ho1, hy1⟩
      · have HFI := Lib.hid (HR2.out.trans (if_pos hr))
        subst hx
        clear hr k0 k1 kh
        go_wp2
        have K2 := (KK1.out.set 0 (.int .i64 d.vars)).set 1 (.slice (some ad) d.forks.length c)
        have q8 := only_setD (only_setD HL.out (p := ⟨w.heap.size + 1, 0, none⟩) (.int .i64 d.vars) (Nat.le_succ _)) (p := ⟨w.heap.size + 1, 1, none⟩) (.slice (some ad) d.forks.length c) (Nat.le_succ _)
        have kd8 := (HKE.out.set (p := ⟨w.heap.size + 1, 0, none⟩) (.int .i64 d.vars) (Nat.le_succ _)).set (p := ⟨w.heap.size + 1, 1, none⟩) (.slice (some ad) d.forks.length c) (Nat.le_succ _)
        generalize (w10.setCell ⟨w.heap.size + 1, 0, none⟩ (.int .i64 d.vars)).setCell ⟨w.heap.size + 1, 1, none⟩ (.slice (some ad) d.forks.length c) = w8 at K2 q8 kd8 ⊢
        have r0 := K2.cell 0
        have r1 := K2.cell 1
        simp only [List.set_cons_zero, List.set_cons_succ, List.getElem?_cons_zero, List.getElem?_cons_succ] at r0 r1
        exact bodyPost_ret (v := .tuple #[.agg #[.int .i64 d.vars, (.slice (some ad) d.forks.length c)], .int .i64 (-1)]) (by simp [results, Try.results66, go_sem, r0, r1]) rfl (by rw [HFI.out]; exact gives_de_no q8 kd8 (by show (-1 : Int) < 0; decide) _ _ _ _)
      · have hx0' := hx
        rw [ex] at hx0'
        obtain ⟨E0, K0k, P0, V0⟩ := run_ok OK.out G0.out HR0.out hx0'
        have HR3 := Lib.hid (HR2.out.trans (if_neg (by omega)))
        have HAP := Lib.hid (H.out.apart hx)
        have KH := Lib.hid kh
        have KB := Lib.hid k0
        have EL := Lib.hid E0.len
        have RK1 : Hid (∀ X : Dg, X = (runF (3 + x) k d gl b).1 → X.vars - rk X (3 + x) gh b < k) := Lib.hid (fun X hX => by subst hX; rw [rk_ext G1.out E0, E0.vars]; have := RR1.out; have := EV.out; have := HK.out; omega)
        have GX := Lib.hid (G1.out.ext E0)
        have ran := run_ok K0k GX.out (RK1.out _ rfl)
        have HYF2 := Lib.hid (HYF.out hx)
        clear k0 k1 kh E0 V0 hx0' HYF
        generalize hR : runF (3 + x) k d gl b = R at *
        clear hR
        obtain ⟨⟨rv, rf⟩, rx⟩ := R
        dsimp only at *
        have ex2 := ex.symm
        have em2 := em.symm
        subst ex2
        subst em2
        subst en
        have few1 := K0k.few
        dsimp only at few1
        have HO1 := Lib.hid ho1
        have HY1 := Lib.hid hy1
        have NB1 : Hid (∀ y, w.heap.size ≤ y → y ≤ w.heap.size + 1 → y ∉ bl (.slice A1 rf.length c1)) := Lib.hid (fun y h1 h2 q => by
          rcases HY1.out y q with q | q
          · exact NB.out y h1 q
          · omega)
        have C1 := Lib.hid (IH.out ⟨rv, rf⟩ A1 c1 gh b base w10 HO1.out (Nat.le_trans hb HL.out.size) K0k GX.out (RK1.out _ rfl))
        have h0 := KH.out.cell 0
        have h1 := KH.out.cell 1
        have sh := KH.out.lt
        have q2 := KF10.out.cell 2
        have lf := KF10.out.lt
        simp only [List.getElem?_cons_zero, List.getElem?_cons_succ] at h0 h1 q2
        dsimp only at C1
        have hxn : ¬ rx < 0 := by omega
        have RAN := Lib.hid ran
        clear ran ho1 hy1 K0k P0 H
        go_wp2_with fail
        refine (C1.out).mono ?_
        rintro e w19 hG
        obtain ⟨m2, A2, n2, c2, x2, rfl, on9, kd9, on1⟩ := gives_de_one rfl hG
        clear hG
        have kk0 := only_blk on9 KB.out (NB1.out _ (Nat.le_refl _) (Nat.le_succ _))
        have kk1 := only_blk on9 KK1.out (NB1.out _ (Nat.le_succ _) (Nat.le_refl _))
        have kkf := only_blk on9 KF10.out (fun q => HYF2.out (mem_bl.1 q))
        have ON9 := only_trans2 HL.out on9 (fun y hy => (HY1.out y hy).imp id (fun q => by omega))
        have KD9 := HKE.out.trans kd9 HL.out.size EL.out (fun y e => (HY1.out y (mem_bl.2 e)).imp mem_bl.1 (fun q => by omega))
        have OW9 : OneD base (.slice (some ad) d.forks.length c) (w.heap.size + 2) (runF (3 + x) k ⟨rv, rf⟩ gh b) m2 A2 n2 c2 x2 w19 := oneD_via on1 s1 HY1.out
        have lw9 := kk0.lt
        go_upto_region 10 with fail
        have H2 := Lib.hid (half_new kk1.lt kk0 kk1 ON9 KD9 OW9)
        have KF20 := Lib.hid (kkf.alloc (.cells #[.int .i64 m2, .slice A2 n2 c2] 46))
        clear kk0 kk1 kkf ON9 KD9 OW9 on9 kd9 on1 C1 x0 x1 q2 lw9 lf h0 h1 sh KB KH KF10 u0 u1 uf0 uf1 KK1 HL HKE HAP
        generalize w19.alloc (.cells #[.int .i64 m2, .slice A2 n2 c2] 46) = wc at *
        generalize w19.heap.size = h2 at *
        have kr := H2.out.res
        have kg := H2.out.one
        have j0 := kg.cell 0
        have j1 := kg.cell 1
        have u0 := kr.cell 0
        have u1 := kr.cell 1
        have q0 := KF20.out.cell 0
        have lf := KF20.out.lt
        simp only [List.getElem?_cons_zero, List.getElem?_cons_succ] at j0 j1 u0 u1 q0
        have HL2 := Lib.hid H2.out.only
        have HKE2 := Lib.hid H2.out.kept
        have KR := Lib.hid kr
        have lkg := kg.lt
        rcases H2.out.own with ⟨hx2, hr2⟩ | ⟨hx2, ex2, em2, en2, ho2, hy2⟩
        · subst hx2
          have HFI : Hid ((runF (3 + x) (k + 1) d (2 + (j : Int)) b).2 < 0) := Lib.hid (by rw [HR3.out]; unfold adF; rw [if_pos (.inr hr2)]; show (-1 : Int) < 0; decide)
          clear hr2 kr kg
          go_wp2_with fail
          refine (l8Add_neg m2 A2 n2 c2 ⟨V, rx, -1⟩ _ (.inr (by show (-1 : Int) < 0; decide))).mono ?_
          rintro e w7 ⟨rfl, c7⟩
          have kr7 := KR.out.below c7 KR.out.lt
          have u0 := kr7.cell 0
          have u1 := kr7.cell 1
          have uf0 := kr7.frozen 0
          have uf1 := kr7.frozen 1
          simp only [List.getElem?_cons_zero, List.getElem?_cons_succ] at u0 u1
          have KR7 := Lib.hid kr7
          clear kr7
          go_wp2
          have K2 := (KR7.out.set 0 (.int .i64 m2)).set 1 (.slice A2 n2 c2)
          have q8 := only_setD (only_setD (HL2.out.trans (Only.of_below c7 _)) (p := ⟨w.heap.size + 1, 0, none⟩) (.int .i64 m2) (Nat.le_succ _)) (p := ⟨w.heap.size + 1, 1, none⟩) (.slice A2 n2 c2) (Nat.le_succ _)
          have kd8 := ((HKE2.out.below c7 HL2.out.size).set (p := ⟨w.heap.size + 1, 0, none⟩) (.int .i64 m2) (Nat.le_succ _)).set (p := ⟨w.heap.size + 1, 1, none⟩) (.slice A2 n2 c2) (Nat.le_succ _)
          generalize (w7.setCell ⟨w.heap.size + 1, 0, none⟩ (.int .i64 m2)).setCell ⟨w.heap.size + 1, 1, none⟩ (.slice A2 n2 c2) = w8 at K2 q8 kd8 ⊢
          have r0 := K2.cell 0
          have r1 := K2.cell 1
          simp only [List.set_cons_zero, List.set_cons_succ, List.getElem?_cons_zero, List.getElem?_cons_succ] at r0 r1
          exact bodyPost_ret (v := .tuple #[.agg #[.int .i64 m2, .slice A2 n2 c2], .int .i64 (-1)]) (by simp [results, Try.results66, go_sem, r0, r1]) rfl (gives_de_no q8 kd8 HFI.out _ _ _ _)
        · have hx20 := hx2
          rw [ex2] at hx20
          obtain ⟨E1, K2k, _, _⟩ := RAN.out hx20
          have EL2 := Lib.hid (Nat.le_trans EL.out E1.len)
          have few2 := K2k.few
          have HFI := Lib.hid HR3.out
          clear E1 K2k hx20 kr kg RAN HR3
          generalize hR2 : runF (3 + x) k ⟨rv, rf⟩ gh b = R2 at *
          clear hR2
          obtain ⟨⟨sv, sf⟩, sx⟩ := R2
          dsimp only at *
          have ex3 := ex2.symm
          have em3 := em2.symm
          subst ex3
          subst em3
          subst en2
          have HY2 := Lib.hid hy2
          have LA := Lib.hid (l8Add_any ⟨sv, sf⟩ A2 c2 ⟨V, rx, sx⟩ base wc ho2 (Nat.le_trans hb HL2.out.size) few2 hx hx2)
          dsimp only at LA
          clear ho2 hy2
          go_wp2_with fail
          refine LA.out.mono ?_
          rintro e w7 hG
          obtain ⟨m3, A3, n3, c3, x3, rfl, on7, kd7, on1⟩ := gives_de_one rfl hG
          clear hG
          have kr7 := only_blk on7 KR.out (fun q => (HY2.out _ q).elim (NB.out _ (Nat.le_succ _)) (fun q => by omega))
          have u0 := kr7.cell 0
          have u1 := kr7.cell 1
          have uf0 := kr7.frozen 0
          have uf1 := kr7.frozen 1
          simp only [List.getElem?_cons_zero, List.getElem?_cons_succ] at u0 u1
          have KR7 := Lib.hid kr7
          have ON7 := Lib.hid (only_trans2 HL2.out on7 (fun y hy => (HY2.out y hy).imp id (fun q => by omega)))
          have KD7 := Lib.hid (HKE2.out.trans kd7 HL2.out.size EL2.out (fun x e => (HY2.out x (mem_bl.2 e)).imp mem_bl.1 (fun q => by omega)))
          have OD7 := Lib.hid (oneD_via (v := (.slice (some ad) d.forks.length c)) (L := w.heap.size) on1 HL2.out.size (fun y hy => (HY2.out y hy).imp id (fun q => by omega)))
          have APT : Hid (x3 = -1 ∨ (Value.slice A3 n3 c3).ownBlock ≠ some (w.heap.size + 1)) := Lib.hid (by
            rcases on1 with ⟨q, _⟩ | ⟨_, _, _, _, _, q⟩
            · exact .inl q
            · refine .inr fun e => ?_
              rcases q _ (mem_bl.2 e) with q | q
              · exact (HY2.out _ q).elim (NB.out _ (Nat.le_succ _)) (fun q => by omega)
              · have := KR.out.lt; omega)
          clear kr7 on7 kd7 on1
          go_wp2
          have K2 := (KR7.out.set 0 (.int .i64 m3)).set 1 (.slice A3 n3 c3)
          have q8 := only_setD (only_setD ON7.out (p := ⟨w.heap.size + 1, 0, none⟩) (.int .i64 m3) (Nat.le_succ _)) (p := ⟨w.heap.size + 1, 1, none⟩) (.slice A3 n3 c3) (Nat.le_succ _)
          have kd8 := (KD7.out.set (p := ⟨w.heap.size + 1, 0, none⟩) (.int .i64 m3) (Nat.le_succ _)).set (p := ⟨w.heap.size + 1, 1, none⟩) (.slice A3 n3 c3) (Nat.le_succ _)
          have OD8 : OneD base (.slice (some ad) d.forks.length c) w.heap.size (adF ⟨sv, sf⟩ ⟨V, rx, sx⟩) m3 A3 n3 c3 x3 ((w7.setCell ⟨w.heap.size + 1, 0, none⟩ (.int .i64 m3)).setCell ⟨w.heap.size + 1, 1, none⟩ (.slice A3 n3 c3)) := by
            rcases APT.out with q | q
            · rcases OD7.out with o | o
              · exact .inl o
              · omega
            · exact oneD_set (oneD_set OD7.out _ q) _ q
          generalize (w7.setCell ⟨w.heap.size + 1, 0, none⟩ (.int .i64 m3)).setCell ⟨w.heap.size + 1, 1, none⟩ (.slice A3 n3 c3) = w8 at K2 q8 kd8 OD8 ⊢
          have r0 := K2.cell 0
          have r1 := K2.cell 1
          simp only [List.set_cons_zero, List.set_cons_succ, List.getElem?_cons_zero, List.getElem?_cons_succ] at r0 r1
          exact bodyPost_ret (v := .tuple #[.agg #[.int .i64 m3, .slice A3 n3 c3], .int .i64 x3]) (by simp [results, Try.results66, go_sem, r0, r1]) rfl (by rw [HFI.out]; exact de_of_one q8 kd8 OD8)
end Go.Proofs.Ytnpdeliaefjmlaa
