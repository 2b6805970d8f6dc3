/- Diagrams: what is true for some value of a variable, in the model. -/
import Derived.Test.YtnpdeliaefjmlaaSmA
import Derived.Test.YtnpdeliaefjmlaaSmJ
namespace Go.Proofs.Ytnpdeliaefjmlaa
open Go.RowKit
set_option maxRecDepth 100000

set_option maxHeartbeats 8000000 in
theorem l8Some_any (d : Dg) (A : Option Addr) (c : Nat) (a b : Int) (base : Nat) (w : World) (ho : w.ownsRow base 100 3 (.slice A d.forks.length c) d.forks.length (fl d.forks)) (hb : base ≤ w.heap.size) (ok : d.Ok) (p : isP d a = true) (hv : varIn d b = true) :
    Calls Try.prog 78 #[.agg #[.int .i64 d.vars, .slice A d.forks.length c], .int .i64 a, .int .i64 b] w (GivesDE base (bl (.slice A d.forks.length c)) (.slice A d.forks.length c) d.forks.length w (smR d a b)) := by
  have g0 : fitA d 3 a b := fit_fix (x := 0) (by decide) p hv
  have g1 : fitA d 4 a b := fit_fix (x := 1) (by decide) p hv
  have few := ok.few
  have OK := Lib.hid ok
  have G0 := Lib.hid g0
  have G1 := Lib.hid g1
  have NB := Lib.hid (fun y (hy : w.heap.size ≤ y) (q : y ∈ bl (.slice A d.forks.length c)) => show False from by have := (ho.lt y (mem_bl.1 q)).2; omega)
  have BX := Lib.hid (two_boxes w #[.int .i64 d.vars, .slice A d.forks.length c] #[.int .i64 0, .slice none 0 0] 46 46)
  have B0 : Below w.heap.size w ((w.alloc (.cells #[.int .i64 d.vars, .slice A d.forks.length c] 46)).alloc (.cells #[.int .i64 0, .slice none 0 0] 46)) := (below_alloc w _).alloc (by simp) _
  have HR2 : Hid (smR d a b = if (runF 3 13 d a b).2 < 0 then (d, -1) else if (runF 4 13 (runF 3 13 d a b).1 a b).2 < 0 then (d, -1) else runF 2 13 (runF 4 13 (runF 3 13 d a b).1 a b).1 (runF 3 13 d a b).2 (runF 4 13 (runF 3 13 d a b).1 a b).2) := Lib.hid rfl
  generalize smR d a b = RES at HR2 ⊢
  have C0 : Hid (∀ W, Below w.heap.size w W → Calls Try.prog 66 #[.agg #[.int .i64 d.vars, .slice A d.forks.length c], .int .i64 a, .int .i64 b, .int .i64 0] W (GivesDE base (bl (.slice A d.forks.length c)) (.slice A d.forks.length c) d.forks.length W (runF 3 13 d a b))) :=
    Lib.hid (fun W B => l8Fix_any 0 (by decide) 13 d A c a b base W (own_below ho B) (Nat.le_trans hb B.size) ok g0 (rk_13 ok g0))
  obtain ⟨BB, k0, k1⟩ := BX.out _ (Below.refl _ _)
  have l1 := k1.lt
  have K0 := Lib.hid k0
  have K1 := Lib.hid k1
  have x0 := k0.cell 0
  have x1 := k0.cell 1
  simp only [List.getElem?_cons_zero, List.getElem?_cons_succ] at x0 x1
  clear g0 g1 ok p hv ho k0 k1 BX
  go_enter Try.func78, Try.ntmps78
  go_wp2_with fail
  generalize ((w.alloc (.cells #[.int .i64 d.vars, .slice A d.forks.length c] 46)).alloc (.cells #[.int .i64 0, .slice none 0 0] 46)) = W5 at *
  refine (C0.out _ B0).mono ?_
  rintro e w9 hG
  obtain ⟨m1, A1, n1, c1, xx, rfl, on9, kd9, on1⟩ := gives_de_one rfl hG
  clear hG
  have kk0 := only_blk on9 K0.out (fun q => NB.out _ (Nat.le_refl _) q)
  have kk1 := only_blk on9 K1.out (fun q => NB.out _ (Nat.le_succ _) q)
  have ON9 := (Only.of_below B0 (bl (.slice A d.forks.length c))).trans on9
  have KD9 := (KeptD.of_below B0 (.slice A d.forks.length c) d.forks.length).trans kd9 B0.size (Nat.le_refl _) (fun x e => .inl e)
  have OW9 : OneD base (.slice A d.forks.length c) (w.heap.size + 2) (runF 3 13 d a b) m1 A1 n1 c1 xx w9 := oneD_from on1 l1
  have lw9 := kk0.lt
  go_upto_region 2 with fail
  have H := Lib.hid (half_new kk1.lt kk0 kk1 ON9 KD9 OW9)
  clear kk0 kk1 ON9 KD9 OW9 on9 kd9 on1 C0 K0 K1 x0 x1 l1 lw9
  generalize w9.alloc (.cells #[.int .i64 m1, .slice A1 n1 c1] 46) = w10 at *
  generalize w9.heap.size = h at *
  have k0 := H.out.box
  have k1 := H.out.res
  have kh := H.out.one
  have x0 := k0.cell 0
  have x1 := k0.cell 1
  have u0 := k1.cell 0
  have u1 := k1.cell 1
  have uf0 := k1.frozen 0
  have uf1 := k1.frozen 1
  have s0 := k0.lt
  have s1 := k1.lt
  simp only [List.getElem?_cons_zero, List.getElem?_cons_succ] at x0 x1 u0 u1
  have HL := Lib.hid H.out.only
  have HKE := Lib.hid H.out.kept
  have KK1 := Lib.hid k1
  rcases H.out.own with ⟨hx, hr⟩ | ⟨hx, ex, em, en, ho1, hy1⟩
  · have HFI := Lib.hid (HR2.out.trans (if_pos hr))
    subst hx
    clear hr k0 k1 kh
    go_wp2
    have K2 := (KK1.out.set 0 (.int .i64 d.vars)).set 1 (.slice A d.forks.length c)
    have q8 := only_setD (only_setD HL.out (p := ⟨w.heap.size + 1, 0, none⟩) (.int .i64 d.vars) (Nat.le_succ _)) (p := ⟨w.heap.size + 1, 1, none⟩) (.slice A d.forks.length c) (Nat.le_succ _)
    have kd8 := (HKE.out.set (p := ⟨w.heap.size + 1, 0, none⟩) (.int .i64 d.vars) (Nat.le_succ _)).set (p := ⟨w.heap.size + 1, 1, none⟩) (.slice A d.forks.length c) (Nat.le_succ _)
    generalize (w10.setCell ⟨w.heap.size + 1, 0, none⟩ (.int .i64 d.vars)).setCell ⟨w.heap.size + 1, 1, none⟩ (.slice A d.forks.length c) = w8 at K2 q8 kd8 ⊢
    have r0 := K2.cell 0
    have r1 := K2.cell 1
    simp only [List.set_cons_zero, List.set_cons_succ, List.getElem?_cons_zero, List.getElem?_cons_succ] at r0 r1
    exact bodyPost_ret (v := .tuple #[.agg #[.int .i64 d.vars, (.slice A d.forks.length c)], .int .i64 (-1)]) (by simp [results, Try.results78, go_sem, r0, r1]) rfl (by rw [HFI.out]; exact gives_de_no q8 kd8 (by show (-1 : Int) < 0; decide) _ _ _ _)
  · have hx0' := hx
    rw [ex] at hx0'
    obtain ⟨E0, K0k, P0, V0⟩ := run_ok OK.out G0.out (rk_13 OK.out G0.out) hx0'
    have HR3 := Lib.hid (HR2.out.trans (if_neg (by omega)))
    have HAP := Lib.hid (H.out.apart hx)
    have KH := Lib.hid kh
    have KB := Lib.hid k0
    have EL := Lib.hid E0.len
    have GX := Lib.hid (G1.out.ext E0)
    have ran := run_ok K0k GX.out (rk_13 K0k GX.out)
    clear k0 k1 kh E0 V0 hx0' HR2
    generalize hR : runF 3 13 d a b = R at *
    clear hR
    obtain ⟨⟨rv, rf⟩, rx⟩ := R
    dsimp only at *
    have ex2 := ex.symm
    have em2 := em.symm
    subst ex2
    subst em2
    subst en
    have few1 := K0k.few
    dsimp only at few1
    have HO1 := Lib.hid ho1
    have HY1 := Lib.hid hy1
    have NB1 : Hid (∀ y, w.heap.size ≤ y → y ≤ w.heap.size + 1 → y ∉ bl (.slice A1 rf.length c1)) := Lib.hid (fun y h1 h2 q => by
      rcases HY1.out y q with q | q
      · exact NB.out y h1 q
      · omega)
    have C1 : Hid (Calls Try.prog 66 #[.agg #[.int .i64 rv, .slice A1 rf.length c1], .int .i64 a, .int .i64 b, .int .i64 1] w10 (GivesDE base (bl (.slice A1 rf.length c1)) (.slice A1 rf.length c1) rf.length w10 (runF 4 13 ⟨rv, rf⟩ a b))) :=
      Lib.hid (l8Fix_any 1 (by decide) 13 ⟨rv, rf⟩ A1 c1 a b base w10 HO1.out (Nat.le_trans hb HL.out.size) K0k GX.out (rk_13 K0k GX.out))
    have h0 := KH.out.cell 0
    have h1 := KH.out.cell 1
    have sh := KH.out.lt
    simp only [List.getElem?_cons_zero, List.getElem?_cons_succ] at h0 h1
    have hxn : ¬ rx < 0 := by omega
    have RAN := Lib.hid ran
    have PP0 := Lib.hid P0
    clear ran ho1 hy1 K0k P0 H
    go_wp2_with fail
    refine (C1.out).mono ?_
    rintro e w19 hG
    obtain ⟨m2, A2, n2, c2, x2, rfl, on9, kd9, on1⟩ := gives_de_one rfl hG
    clear hG
    have kk0 := only_blk on9 KB.out (NB1.out _ (Nat.le_refl _) (Nat.le_succ _))
    have kk1 := only_blk on9 KK1.out (NB1.out _ (Nat.le_succ _) (Nat.le_refl _))
    have ON9 := only_trans2 HL.out on9 (fun y hy => (HY1.out y hy).imp id (fun q => by omega))
    have KD9 := HKE.out.trans kd9 HL.out.size EL.out (fun y e => (HY1.out y (mem_bl.2 e)).imp mem_bl.1 (fun q => by omega))
    have OW9 : OneD base (.slice A d.forks.length c) (w.heap.size + 2) (runF 4 13 ⟨rv, rf⟩ a b) m2 A2 n2 c2 x2 w19 := oneD_via on1 s1 HY1.out
    have lw9 := kk0.lt
    go_upto_region 5 with fail
    have H2 := Lib.hid (half_new kk1.lt kk0 kk1 ON9 KD9 OW9)
    clear kk0 kk1 ON9 KD9 OW9 on9 kd9 on1 C1 x0 x1 lw9 h0 h1 sh KB KH u0 u1 uf0 uf1 KK1 HL HKE HAP
    generalize w19.alloc (.cells #[.int .i64 m2, .slice A2 n2 c2] 46) = wc at *
    generalize w19.heap.size = h2 at *
    have kb := H2.out.box
    have kr := H2.out.res
    have kg := H2.out.one
    have x0 := kb.cell 0
    have x1 := kb.cell 1
    have j0 := kg.cell 0
    have j1 := kg.cell 1
    have u0 := kr.cell 0
    have u1 := kr.cell 1
    have uf0 := kr.frozen 0
    have uf1 := kr.frozen 1
    simp only [List.getElem?_cons_zero, List.getElem?_cons_succ] at j0 j1 u0 u1 x0 x1
    have HL2 := Lib.hid H2.out.only
    have HKE2 := Lib.hid H2.out.kept
    have KR := Lib.hid kr
    have lkg := kg.lt
    rcases H2.out.own with ⟨hx2, hr2⟩ | ⟨hx2, ex2, em2, en2, ho2, hy2⟩
    · have HFI := Lib.hid (HR3.out.trans (if_pos hr2))
      subst hx2
      clear hr2 kr kg kb
      go_wp2
      have K2 := (KR.out.set 0 (.int .i64 d.vars)).set 1 (.slice A d.forks.length c)
      have q8 := only_setD (only_setD HL2.out (p := ⟨w.heap.size + 1, 0, none⟩) (.int .i64 d.vars) (Nat.le_succ _)) (p := ⟨w.heap.size + 1, 1, none⟩) (.slice A d.forks.length c) (Nat.le_succ _)
      have kd8 := (HKE2.out.set (p := ⟨w.heap.size + 1, 0, none⟩) (.int .i64 d.vars) (Nat.le_succ _)).set (p := ⟨w.heap.size + 1, 1, none⟩) (.slice A d.forks.length c) (Nat.le_succ _)
      generalize (wc.setCell ⟨w.heap.size + 1, 0, none⟩ (.int .i64 d.vars)).setCell ⟨w.heap.size + 1, 1, none⟩ (.slice A d.forks.length c) = w8 at K2 q8 kd8 ⊢
      have r0 := K2.cell 0
      have r1 := K2.cell 1
      simp only [List.set_cons_zero, List.set_cons_succ, List.getElem?_cons_zero, List.getElem?_cons_succ] at r0 r1
      exact bodyPost_ret (v := .tuple #[.agg #[.int .i64 d.vars, (.slice A d.forks.length c)], .int .i64 (-1)]) (by simp [results, Try.results78, go_sem, r0, r1]) rfl (by rw [HFI.out]; exact gives_de_no q8 kd8 (by show (-1 : Int) < 0; decide) _ _ _ _)
    · have hx20 := hx2
      rw [ex2] at hx20
      obtain ⟨E1, K2k, P1, _⟩ := RAN.out hx20
      have EL2 := Lib.hid (Nat.le_trans EL.out E1.len)
      have few2 := K2k.few
      have HFI := Lib.hid (HR3.out.trans (if_neg (by omega)))
      have PP1 := Lib.hid (E1.isP PP0.out)
      clear E1 hx20 kr kg kb RAN HR3 x0 x1 uf0 uf1
      generalize hR2 : runF 4 13 ⟨rv, rf⟩ a b = R2 at *
      clear hR2
      obtain ⟨⟨sv, sf⟩, sx⟩ := R2
      dsimp only at *
      have ex3 := ex2.symm
      have em3 := em2.symm
      subst ex3
      subst em3
      subst en2
      have g2 : fitA ⟨sv, sf⟩ 2 rx sx := ⟨by decide, by decide, PP1.out, fun _ => P1, fun q => by omega, fun q => by omega, fun q => by omega⟩
      have HY2 := Lib.hid hy2
      have LA := Lib.hid (l8Or_any 13 ⟨sv, sf⟩ A2 c2 rx sx base wc ho2 (Nat.le_trans hb HL2.out.size) K2k g2 (rk_13 K2k g2))
      dsimp only at LA
      have hx2n : ¬ sx < 0 := by omega
      clear ho2 hy2 g2 K2k P1 PP0 PP1
      go_wp2_with fail
      refine LA.out.mono ?_
      rintro e w7 hG
      obtain ⟨m3, A3, n3, c3, x3, rfl, on7, kd7, on1⟩ := gives_de_one rfl hG
      clear hG
      have kr7 := only_blk on7 KR.out (fun q => (HY2.out _ q).elim (NB.out _ (Nat.le_succ _)) (fun q => by omega))
      have u0 := kr7.cell 0
      have u1 := kr7.cell 1
      have uf0 := kr7.frozen 0
      have uf1 := kr7.frozen 1
      simp only [List.getElem?_cons_zero, List.getElem?_cons_succ] at u0 u1
      have KR7 := Lib.hid kr7
      have ON7 := Lib.hid (only_trans2 HL2.out on7 (fun y hy => (HY2.out y hy).imp id (fun q => by omega)))
      have KD7 := Lib.hid (HKE2.out.trans kd7 HL2.out.size EL2.out (fun x e => (HY2.out x (mem_bl.2 e)).imp mem_bl.1 (fun q => by omega)))
      have OD7 := Lib.hid (oneD_via (v := (.slice A d.forks.length c)) (L := w.heap.size) on1 HL2.out.size (fun y hy => (HY2.out y hy).imp id (fun q => by omega)))
      have APT : Hid (x3 = -1 ∨ (Value.slice A3 n3 c3).ownBlock ≠ some (w.heap.size + 1)) := Lib.hid (by
        rcases on1 with ⟨q, _⟩ | ⟨_, _, _, _, _, q⟩
        · exact .inl q
        · refine .inr fun e => ?_
          rcases q _ (mem_bl.2 e) with q | q
          · exact (HY2.out _ q).elim (NB.out _ (Nat.le_succ _)) (fun q => by omega)
          · have := KR.out.lt; omega)
      clear kr7 on7 kd7 on1
      go_wp2
      have K2 := (KR7.out.set 0 (.int .i64 m3)).set 1 (.slice A3 n3 c3)
      have q8 := only_setD (only_setD ON7.out (p := ⟨w.heap.size + 1, 0, none⟩) (.int .i64 m3) (Nat.le_succ _)) (p := ⟨w.heap.size + 1, 1, none⟩) (.slice A3 n3 c3) (Nat.le_succ _)
      have kd8 := (KD7.out.set (p := ⟨w.heap.size + 1, 0, none⟩) (.int .i64 m3) (Nat.le_succ _)).set (p := ⟨w.heap.size + 1, 1, none⟩) (.slice A3 n3 c3) (Nat.le_succ _)
      have OD8 : OneD base (.slice A d.forks.length c) w.heap.size (runF 2 13 ⟨sv, sf⟩ rx sx) m3 A3 n3 c3 x3 ((w7.setCell ⟨w.heap.size + 1, 0, none⟩ (.int .i64 m3)).setCell ⟨w.heap.size + 1, 1, none⟩ (.slice A3 n3 c3)) := by
        rcases APT.out with q | q
        · rcases OD7.out with o | o
          · exact .inl o
          · omega
        · exact oneD_set (oneD_set OD7.out _ q) _ q
      generalize (w7.setCell ⟨w.heap.size + 1, 0, none⟩ (.int .i64 m3)).setCell ⟨w.heap.size + 1, 1, none⟩ (.slice A3 n3 c3) = w8 at K2 q8 kd8 OD8 ⊢
      have r0 := K2.cell 0
      have r1 := K2.cell 1
      simp only [List.set_cons_zero, List.set_cons_succ, List.getElem?_cons_zero, List.getElem?_cons_succ] at r0 r1
      exact bodyPost_ret (v := .tuple #[.agg #[.int .i64 m3, .slice A3 n3 c3], .int .i64 x3]) (by simp [results, Try.results78, go_sem, r0, r1]) rfl (by rw [HFI.out]; exact de_of_one q8 kd8 OD8)
end Go.Proofs.Ytnpdeliaefjmlaa
