/- For every input the law FnExactInputsOf returns true: the function answers as its model, and writes into no argument. -/
import Derived.Test.YthlkbkomecnbaaaKiI
import Derived.Test.YthlkbkomecnbaaaKiS
import Derived.Test.YthlkbkomecnbaaaIl
import Derived.Test.YthlkbkomecnbaaaEqSy
import Derived.Test.YthlkbkomecnbaaaOpenSy
import Derived.Test.YthlkbkomecnbaaaOpenSy
import Derived.Deep.RegionHeld3
namespace Go.Proofs.Ythlkbkomecnbaaa
open Go.ChangeShapes Go.WideShapes Go.ChangeAt Go.RowKit

theorem slInputsOf_box {w : World} {v1 v2 : Value} (t : TypeId) : ∀ W, Below (w.alloc (.cells #[v1, v2] t)).heap.size (w.alloc (.cells #[v1, v2] t)) W →
    Below w.heap.size w W ∧ W.cell? ⟨w.heap.size, 0, none⟩ = some v1 ∧ W.cell? ⟨w.heap.size, 1, none⟩ = some v2 ∧ w.heap.size < W.heap.size :=
  fun W hW => ⟨below_call hW, ((ci_blk w _ _).below hW (by simp)).cell 0, ((ci_blk w _ _).below hW (by simp)).cell 1, by have := hW.size; simp at this; omega⟩

set_option maxRecDepth 100000 in
set_option maxHeartbeats 8000000 in
theorem slInputsOf_any (ci : Ci) (bs : List Int) (A_ci0 : Option Addr) (n_ci0 c_ci0 : Nat) (A_bs0 : Option Addr) (n_bs0 c_bs0 : Nat) (w : World) (h_ci0 : Mem.rd w w.heap.size [.slice A_ci0 n_ci0 c_ci0] ci.gates) (h_bs0 : Mem.rd w w.heap.size [.slice A_bs0 n_bs0 c_bs0] bs) :
    Calls Try.prog 8 #[.agg #[.int .i64 ci.ins, .slice A_ci0 n_ci0 c_ci0], .slice A_bs0 n_bs0 c_bs0] w (GivesBool w true) := by
  have m_ci0 := rd_max h_ci0
  have m_bs0 := rd_max h_bs0
  unfold maxLen at m_ci0 m_bs0
  by_cases big_bs : 1048576 < n_bs0
  · go_enter Try.func8, Try.ntmps8
    go_wp2
    go_ret
    exact ⟨rfl, by first | exact Below.refl _ _ | exact below_alloc _ _ | exact (below_alloc _ _).trans ((below_alloc _ _).mono (by simp))⟩
  by_cases big_ci : 1048576 < (szCi ci : Int)
  · go_enter Try.func8, Try.ntmps8
    go_wp2_with fail
    refine (szCircuit_any ci A_ci0 n_ci0 c_ci0 (1048576) _ (Mem.rd_on_alloc h_ci0 _) (by omega) (by omega)).mono ?_
    rintro e v0 ⟨rfl, bz0⟩
    have k := bz0
    rw [rest_no big_ci]
    go_wp2
    go_ret
    exact ⟨rfl, by first | exact Below.refl _ _ | exact below_alloc _ _ | exact below_call k | exact below_call (below_call k) | exact k⟩
  have sz_ci : ci.gates.length ≤ 1048576 := by have : szCi ci = ci.gates.length := rfl; omega
  have fits_ci := Lib.hid sz_ci
  have i_bs : n_bs0 ≤ 1048576 := by omega
  have sz_bs : bs.length ≤ 1048576 := by rw [rd_len h_bs0]; exact i_bs
  have CS := Lib.hid (fun A_ci0' n_ci0' c_ci0' A_bs0' n_bs0' c_bs0' w h_ci0' h_bs0' hc_bs => inputsOf_spec ci bs A_ci0' n_ci0' c_ci0' A_bs0' n_bs0' c_bs0' w h_ci0' h_bs0' hc_bs)
  have CI := Lib.hid (fun A_ci0' n_ci0' c_ci0' A_bs0' n_bs0' c_bs0' w h_ci0' h_bs0' hc_bs => inputsOf_impl ci bs A_ci0' n_ci0' c_ci0' A_bs0' n_bs0' c_bs0' w h_ci0' h_bs0' hc_bs)
  have bF0 := inputsB_len ci bs
  generalize inputsB ci bs = F0 at CS CI bF0
  obtain ⟨m0, hm0⟩ : ∃ m, m = F0.length := ⟨_, rfl⟩
  rw [← hm0] at bF0
  have HM0 := Lib.hid hm0
  clear hm0
  obtain ⟨mk_ci, HM_ci, hk_ci⟩ : ∃ m : Nat, Hid (m = mkCi ci) ∧ m ≤ 2 * 1048576 := ⟨_, Lib.hid rfl, by unfold mkCi; omega⟩
  obtain ⟨mk_bs, HM_bs, hk_bs⟩ : ∃ m : Nat, Hid (m = bs.length) ∧ m ≤ 1048576 := ⟨_, Lib.hid rfl, sz_bs⟩
  have BX := Lib.hid (slInputsOf_box (w := w) (v1 := .int .i64 ci.ins) (v2 := .slice A_ci0 n_ci0 c_ci0) 42)
  go_enter Try.func8, Try.ntmps8
  go_wp2_with fail
  refine (szCircuit_any ci A_ci0 n_ci0 c_ci0 (1048576) _ (Mem.rd_on_alloc h_ci0 _) (by omega) (by omega)).mono ?_
  rintro e v0 ⟨rfl, bz0⟩
  have k := bz0
  rw [rest_yes (by omega)]
  skip
  obtain ⟨B, x0, x1, lx⟩ := BX.out _ k
  have plo_ci_k := k.size
  go_wp2_with fail
  refine (toCircuit_any ci A_ci0 n_ci0 c_ci0 _ (Mem.rd_on h_ci0 B) fits_ci.out).mono ?_
  rintro e w1 ⟨pA_ci0, pn_ci0, pc_ci0, pf_ci0, rfl, po_ci0, pnd_ci, plo_ci, b1⟩
  have sb1 := b1.size
  have k := k.trans (b1.mono k.size)
  obtain ⟨B, x0, x1, lx⟩ := BX.out _ k
  have plo_ci_hi := Mem.own_lt po_ci0
  have plo_bs_k := k.size
  go_wp2_with fail
  refine (toIntS_M A_bs0 n_bs0 c_bs0 bs _ (Mem.rd_on h_bs0 B) i_bs).mono ?_
  rintro e w2 ⟨pA_bs0, pn_bs0, pc_bs0, pf_bs0, rfl, po_bs0, pnd_bs, plo_bs, b2⟩
  have sb2 := b2.size
  have k := k.trans (b2.mono k.size)
  have po_ci0 := Mem.own_below po_ci0 b2
  obtain ⟨B, x0, x1, lx⟩ := BX.out _ k
  have plo_bs_hi := Mem.own_lt po_bs0
  have slo_k := k.size
  go_wp2_with fail
  refine (CS.out pA_ci0 pn_ci0 pc_ci0 pA_bs0 pn_bs0 pc_bs0  _ (Mem.own_rd po_ci0) (Mem.own_rd po_bs0) (Mem.own_cap po_bs0)).mono ?_
  rintro e w3 ⟨sA0, sn0, sc0, sf0, rfl, so0, snd, slo, b3⟩
  have sb3 := b3.size
  have k := k.trans (b3.mono k.size)
  have po_ci0 := Mem.own_below po_ci0 b3
  have po_bs0 := Mem.own_below po_bs0 b3
  obtain ⟨B, x0, x1, lx⟩ := BX.out _ k
  have slo_hi := Mem.own_lt so0
  have xlo_ci_k := k.size
  go_wp2_with fail
  refine (toCircuit_any ci A_ci0 n_ci0 c_ci0 _ (Mem.rd_on h_ci0 B) fits_ci.out).mono ?_
  rintro e w4 ⟨xA_ci0, xn_ci0, xc_ci0, xf_ci0, rfl, xo_ci0, xnd_ci, xlo_ci, b4⟩
  have sb4 := b4.size
  have k := k.trans (b4.mono k.size)
  have so0 := Mem.own_below so0 b4
  obtain ⟨B, x0, x1, lx⟩ := BX.out _ k
  have xlo_ci_hi := Mem.own_lt xo_ci0
  have xlo_bs_k := k.size
  go_wp2_with fail
  refine (toIntS_M A_bs0 n_bs0 c_bs0 bs _ (Mem.rd_on_alloc (Mem.rd_on h_bs0 B) _) i_bs).mono ?_
  rintro e w5 ⟨xA_bs0, xn_bs0, xc_bs0, xf_bs0, rfl, xo_bs0, xnd_bs, xlo_bs, b5⟩
  obtain ⟨_, xy_ci0, xy_ci1, xl_ci⟩ := slInputsOf_box 48 w5 b5
  have zb5 := b5.size; rw [World.size_alloc] at zb5
  have b5 := below_call b5
  have sb5 := b5.size
  have k := k.trans (b5.mono k.size)
  have so0 := Mem.own_below so0 b5
  have xo_ci0 := Mem.own_below xo_ci0 b5
  obtain ⟨B, x0, x1, lx⟩ := BX.out _ k
  simp only [World.size_alloc] at xlo_bs
  have xlo_bs_hi := Mem.own_lt xo_bs0
  have glo_k := k.size
  go_wp2_with fail
  refine (CI.out xA_ci0 xn_ci0 xc_ci0 xA_bs0 xn_bs0 xc_bs0  _ (Mem.own_rd xo_ci0) (Mem.own_rd xo_bs0) (Mem.own_cap xo_bs0)).mono ?_
  rintro e w6 ⟨gA0, gn0, gc0, gf0, rfl, go0, gnd, glo, b6⟩
  have sb6 := b6.size
  have k := k.trans (b6.mono k.size)
  have xy_ci0 := cell_below b6 (p := ⟨w4.heap.size, 0, none⟩) xl_ci xy_ci0
  have xy_ci1 := cell_below b6 (p := ⟨w4.heap.size, 1, none⟩) xl_ci xy_ci1
  have xl_ci := Nat.lt_of_lt_of_le xl_ci sb6
  have so0 := Mem.own_below so0 b6
  have xo_ci0 := Mem.own_below xo_ci0 b6
  have xo_bs0 := Mem.own_below xo_bs0 b6
  obtain ⟨B, x0, x1, lx⟩ := BX.out _ k
  have glo_hi := Mem.own_lt go0
  go_wp2_with fail
  refine (eqIntS_M gA0 sA0 gn0 gc0 sn0 sc0 F0 _ (Mem.own_rd go0) (Mem.own_rd so0)).mono ?_
  rintro e w7 ⟨rfl, b7⟩
  have sb7 := b7.size
  have k := k.trans (b7.mono k.size)
  have xy_ci0 := cell_below b7 (p := ⟨w4.heap.size, 0, none⟩) xl_ci xy_ci0
  have xy_ci1 := cell_below b7 (p := ⟨w4.heap.size, 1, none⟩) xl_ci xy_ci1
  have xl_ci := Nat.lt_of_lt_of_le xl_ci sb7
  have so0 := Mem.own_below so0 b7
  have xo_ci0 := Mem.own_below xo_ci0 b7
  have xo_bs0 := Mem.own_below xo_bs0 b7
  have go0 := Mem.own_below go0 b7
  obtain ⟨B, x0, x1, lx⟩ := BX.out _ k
  have r0_ := Mem.own_rd xo_ci0
  go_wp2
  go_region_held3 (fun w' => w'.cell? ⟨w.heap.size, 0, none⟩ = some (.int .i64 ci.ins) ∧ w'.cell? ⟨w.heap.size, 1, none⟩ = some (.slice A_ci0 n_ci0 c_ci0) ∧ w'.cell? ⟨w4.heap.size, 0, none⟩ = some (.int .i64 ci.ins) ∧ w'.cell? ⟨w4.heap.size, 1, none⟩ = some (.slice xA_ci0 xn_ci0 xc_ci0)) (go_keep)
    (first
      | (go_at_call 28; refine (toCircuit_any ci A_ci0 n_ci0 c_ci0 w7.drew (Mem.rd_drew (Mem.rd_on h_ci0 B)) fits_ci.out).mono ?_; rintro e w8 ⟨R1, g1, j1, q5, rfl, u5, _, _, b8⟩
         have z0 := cell_below b8 (p := ⟨w.heap.size, 0, none⟩) lx x0
         have z1 := cell_below b8 (p := ⟨w.heap.size, 1, none⟩) lx x1
         have z2 := cell_below b8 (p := ⟨w4.heap.size, 0, none⟩) xl_ci xy_ci0
         have z3 := cell_below b8 (p := ⟨w4.heap.size, 1, none⟩) xl_ci xy_ci1
         have l7 := Nat.lt_of_lt_of_le lx b8.size
         have m7 := Nat.lt_of_lt_of_le xl_ci b8.size)
      | (go_at_call 30; refine (eqCircuit_same ci xA_ci0 xn_ci0 xc_ci0 R1 g1 j1 _ (Mem.rd_on (Mem.rd_drew r0_) b8) (Mem.own_rd u5) fits_ci.out).mono ?_; rintro e w9 ⟨rfl, b9⟩
         have z0 := cell_below b9 (p := ⟨w.heap.size, 0, none⟩) l7 z0
         have z1 := cell_below b9 (p := ⟨w.heap.size, 1, none⟩) l7 z1
         have z2 := cell_below b9 (p := ⟨w4.heap.size, 0, none⟩) m7 z2
         have z3 := cell_below b9 (p := ⟨w4.heap.size, 1, none⟩) m7 z3))
  have b9 := (show Below w7.heap.size w7 w8 from ⟨b8.os, b8.tape, b8.output, b8.size, b8.block⟩).trans (b9.mono b8.size)
  clear r0_
  have sb9 := b9.size
  have k := k.trans (b9.mono k.size)
  have xy_ci0 := cell_below b9 (p := ⟨w4.heap.size, 0, none⟩) xl_ci xy_ci0
  have xy_ci1 := cell_below b9 (p := ⟨w4.heap.size, 1, none⟩) xl_ci xy_ci1
  have xl_ci := Nat.lt_of_lt_of_le xl_ci sb9
  have so0 := Mem.own_below so0 b9
  have xo_ci0 := Mem.own_below xo_ci0 b9
  have xo_bs0 := Mem.own_below xo_bs0 b9
  have go0 := Mem.own_below go0 b9
  obtain ⟨B, x0, x1, lx⟩ := BX.out _ k
  have elo_bs_k := k.size
  go_wp2_with fail
  refine (toIntS_M A_bs0 n_bs0 c_bs0 bs _ (Mem.rd_on h_bs0 B) i_bs).mono ?_
  rintro e w10 ⟨eA_bs0, en_bs0, ec_bs0, ef_bs0, rfl, eo_bs0, end_bs, elo_bs, b10⟩
  have sb10 := b10.size
  have k := k.trans (b10.mono k.size)
  have xy_ci0 := cell_below b10 (p := ⟨w4.heap.size, 0, none⟩) xl_ci xy_ci0
  have xy_ci1 := cell_below b10 (p := ⟨w4.heap.size, 1, none⟩) xl_ci xy_ci1
  have xl_ci := Nat.lt_of_lt_of_le xl_ci sb10
  have so0 := Mem.own_below so0 b10
  have xo_ci0 := Mem.own_below xo_ci0 b10
  have xo_bs0 := Mem.own_below xo_bs0 b10
  have go0 := Mem.own_below go0 b10
  obtain ⟨B, x0, x1, lx⟩ := BX.out _ k
  have elo_bs_hi := Mem.own_lt eo_bs0
  go_wp2_with fail
  refine (eqIntS_M xA_bs0 eA_bs0 xn_bs0 xc_bs0 en_bs0 ec_bs0 bs _ (Mem.own_rd xo_bs0) (Mem.own_rd eo_bs0)).mono ?_
  rintro e w11 ⟨rfl, b11⟩
  have sb11 := b11.size
  have k := k.trans (b11.mono k.size)
  have xy_ci0 := cell_below b11 (p := ⟨w4.heap.size, 0, none⟩) xl_ci xy_ci0
  have xy_ci1 := cell_below b11 (p := ⟨w4.heap.size, 1, none⟩) xl_ci xy_ci1
  have xl_ci := Nat.lt_of_lt_of_le xl_ci sb11
  have so0 := Mem.own_below so0 b11
  have xo_ci0 := Mem.own_below xo_ci0 b11
  have xo_bs0 := Mem.own_below xo_bs0 b11
  have go0 := Mem.own_below go0 b11
  have eo_bs0 := Mem.own_below eo_bs0 b11
  obtain ⟨B, x0, x1, lx⟩ := BX.out _ k
  go_wp2_with fail
  refine (markCircuit_M ci xA_ci0 xn_ci0 xc_ci0 xf_ci0 (1) _ xo_ci0 (by omega) (by omega) sz_ci).mono ?_
  rintro e w12 ⟨rfl, b12⟩
  have sb12 := b12.size
  have k := k.trans (b12.below (by have := k.size; omega) fun b hb => by have := xlo_ci b hb; have := xlo_ci_k; omega)
  have so0 := Mem.own_only so0 b12 fun b hb hc => by have := slo b hb; have := slo_hi b hb; have := xlo_ci b hc; have := xlo_ci_hi b hc; omega
  have xo_bs0 := Mem.own_only xo_bs0 b12 fun b hb hc => by have := xlo_bs b hb; have := xlo_bs_hi b hb; have := xlo_ci b hc; have := xlo_ci_hi b hc; omega
  have go0 := Mem.own_only go0 b12 fun b hb hc => by have := glo b hb; have := glo_hi b hb; have := xlo_ci b hc; have := xlo_ci_hi b hc; omega
  obtain ⟨B, x0, x1, lx⟩ := BX.out _ k
  rw [← HM_ci.out]
  go_wp2_with fail
  refine (markIntS_M xA_bs0 xn_bs0 xc_bs0 bs xf_bs0 (1 + (mk_ci : Int)) _ xo_bs0 (by omega) (by omega) sz_bs).mono ?_
  rintro e w13 ⟨rfl, b13⟩
  have sb13 := b13.size
  have k := k.trans (b13.below (by have := k.size; omega) fun b hb => by have := xlo_bs b hb; have := xlo_bs_k; omega)
  have so0 := Mem.own_only so0 b13 fun b hb hc => by have := slo b hb; have := slo_hi b hb; have := xlo_bs b hc; have := xlo_bs_hi b hc; omega
  have go0 := Mem.own_only go0 b13 fun b hb hc => by have := glo b hb; have := glo_hi b hb; have := xlo_bs b hc; have := xlo_bs_hi b hc; omega
  obtain ⟨B, x0, x1, lx⟩ := BX.out _ k
  rw [← HM_bs.out]
  go_wp2_with fail
  refine (eqIntS_M gA0 sA0 gn0 gc0 sn0 sc0 F0 _ (Mem.own_rd go0) (Mem.own_rd so0)).mono ?_
  rintro e w14 ⟨rfl, b14⟩
  have sb14 := b14.size
  have k := k.trans (b14.mono k.size)
  have so0 := Mem.own_below so0 b14
  have go0 := Mem.own_below go0 b14
  obtain ⟨B, x0, x1, lx⟩ := BX.out _ k
  go_wp2_with fail
  refine (markIntS_W gA0 gn0 gc0 F0 gf0 (1) _ go0 (by omega) (by omega) (by rw [← HM0.out]; omega)).mono ?_
  rintro e w15 ⟨rfl, go0, b15⟩
  have sb15 := b15.size
  have k := k.trans (b15.below (by have := k.size; omega) fun b hb => by have := glo b hb; have := glo_k; omega)
  have so0 := Mem.own_only so0 b15 fun b hb hc => by have := slo b hb; have := slo_hi b hb; have := glo b hc; have := glo_hi b hc; omega
  obtain ⟨B, x0, x1, lx⟩ := BX.out _ k
  rw [← HM0.out] at go0 ⊢
  have nq : (1 + (m0 : Int) != 1 + (m0 : Int)) = false := by simp
  go_wp2_with fail
  refine (heldIntS_W gA0 gn0 gc0 (1) m0 _ (Mem.own_rd go0) (by omega) (by omega) (by omega)).mono ?_
  rintro e w16 ⟨rfl, b16⟩
  have sb16 := b16.size
  have k := k.trans (b16.mono k.size)
  have so0 := Mem.own_below so0 b16
  have go0 := Mem.own_below go0 b16
  obtain ⟨B, x0, x1, lx⟩ := BX.out _ k
  have qlo_ci_k := k.size
  go_wp2_with fail
  refine (toCircuit_any ci A_ci0 n_ci0 c_ci0 _ (Mem.rd_on h_ci0 B) fits_ci.out).mono ?_
  rintro e w17 ⟨qA_ci0, qn_ci0, qc_ci0, qf_ci0, rfl, qo_ci0, qnd_ci, qlo_ci, b17⟩
  have sb17 := b17.size
  have k := k.trans (b17.mono k.size)
  have so0 := Mem.own_below so0 b17
  have go0 := Mem.own_below go0 b17
  obtain ⟨B, x0, x1, lx⟩ := BX.out _ k
  have qlo_ci_hi := Mem.own_lt qo_ci0
  have qlo_bs_k := k.size
  go_wp2_with fail
  refine (toIntS_M A_bs0 n_bs0 c_bs0 bs _ (Mem.rd_on h_bs0 B) i_bs).mono ?_
  rintro e w18 ⟨qA_bs0, qn_bs0, qc_bs0, qf_bs0, rfl, qo_bs0, qnd_bs, qlo_bs, b18⟩
  have sb18 := b18.size
  have k := k.trans (b18.mono k.size)
  have so0 := Mem.own_below so0 b18
  have go0 := Mem.own_below go0 b18
  have qo_ci0 := Mem.own_below qo_ci0 b18
  obtain ⟨B, x0, x1, lx⟩ := BX.out _ k
  have qlo_bs_hi := Mem.own_lt qo_bs0
  have hlo_k := k.size
  go_wp2_with fail
  refine (CI.out qA_ci0 qn_ci0 qc_ci0 qA_bs0 qn_bs0 qc_bs0  _ (Mem.own_rd qo_ci0) (Mem.own_rd qo_bs0) (Mem.own_cap qo_bs0)).mono ?_
  rintro e w19 ⟨hA0, hn0, hc0, hf0, rfl, ho0, hnd, hlo, b19⟩
  have sb19 := b19.size
  have k := k.trans (b19.mono k.size)
  have so0 := Mem.own_below so0 b19
  have go0 := Mem.own_below go0 b19
  have qo_ci0 := Mem.own_below qo_ci0 b19
  have qo_bs0 := Mem.own_below qo_bs0 b19
  obtain ⟨B, x0, x1, lx⟩ := BX.out _ k
  have hlo_hi := Mem.own_lt ho0
  go_wp2_with fail
  refine (eqIntS_M hA0 sA0 hn0 hc0 sn0 sc0 F0 _ (Mem.own_rd ho0) (Mem.own_rd so0)).mono ?_
  rintro e w20 ⟨rfl, b20⟩
  have sb20 := b20.size
  have k := k.trans (b20.mono k.size)
  have so0 := Mem.own_below so0 b20
  have go0 := Mem.own_below go0 b20
  have ho0 := Mem.own_below ho0 b20
  obtain ⟨B, x0, x1, lx⟩ := BX.out _ k
  go_wp2_with fail
  refine (heldIntS_W gA0 gn0 gc0 (1) m0 _ (Mem.own_rd go0) (by omega) (by omega) (by omega)).mono ?_
  rintro e w21 ⟨rfl, b21⟩
  have sb21 := b21.size
  have k := k.trans (b21.mono k.size)
  have so0 := Mem.own_below so0 b21
  have go0 := Mem.own_below go0 b21
  have ho0 := Mem.own_below ho0 b21
  obtain ⟨B, x0, x1, lx⟩ := BX.out _ k
  go_wp2
  go_ret
  exact ⟨rfl, B⟩

set_option maxRecDepth 100000 in
theorem slInputsOf_lifted (os : Os) (started : os.Started) (H : Type) (enc : TypeId × Value → H) :
    ReturnsInHanded {} Try.checked os 8 .any (Rows.fnExactInputsOfSpec.pre6 enc Try.prog Try.f8 Rows.fnExactInputsOfRow.domain false) (Rows.fnExactInputsOfSpec.post enc Try.prog Try.f8 false true false false) := by
  refine returnsInHanded_of_change (C := Try.checked) Try.own started (by kernel_rfl) Try.func8
    (ChangeSpec.witness6 (enc := enc) (C := Try.checked) false ⟨#[], #[.agg #[.int .i64 0, .slice none 0 0], .slice none 0 0], []⟩ 8 (by kernel_rfl) (by kernel_rfl) (by kernel_rfl) (by kernel_rfl)) ?_
  intro W base args ds gs before hval0 hW hcnd _
  have hval : ∀ (j : Nat) t v, Try.f8.params[j]? = some t → args[j]? = some v → Value.okWide Try.prog W .any base t v := hval0
  have hW' := hW
  have hW2 := hW
  obtain ⟨p, q, hA0, hV, rfl, hfz, hnd⟩ := hW2
  have hA : DataW.TrodAll enc Try.prog W 0 (fun _ => true) true Try.f8.params.toList args.toList ds p := hA0
  rw [Try.params8] at hA hval
  obtain ⟨u0, u1, d0, d1, p0, p1, rfl, rfl, rfl, h0, h1⟩ := trodAll_two hA
  obtain ⟨rfl, rfl⟩ := trodVars_none hV
  have k0 := h0
  obtain ⟨A_ci0, n_ci0, c_ci0, ci, rfl, ra0, wf0⟩ := open_circuit (hval 0 42 u0 rfl rfl) h0
  have k1 := h1
  obtain ⟨A_bs0, n_bs0, c_bs0, bs, rfl, mm1, rr1⟩ := open_intS (hval 1 22 u1 rfl rfl) h1
  clear hA0 hval0
  simp only [List.append_nil] at hW'
  have hlt : ∀ x ∈ p0 ++ p1, x.block < W.heap.size := fun x hx => hW'.lt x (by simpa using hx)
  refine (slInputsOf_any ci bs A_ci0 n_ci0 c_ci0 A_bs0 n_bs0 c_bs0 W ra0 (rd_ints.2 ⟨mm1, rr1⟩)).mono fun e W' ⟨he, hb⟩ => ?_
  subst he
  exact ⟨_, rfl, post_below (pa := p0 ++ p1) (pv := []) hW' (fun _ _ _ => trodAll_mk1 (shut_bool Try.underlying4 _))
    (fun sp hsp => trodAll_mk2 (WideElems.Trod_stays Try.laidOut (by kernel_rfl) (of_decide_eq_true (by kernel_rfl)) k0 (fun x hx => hb.same (hlt x (by simp [hx]))) (fun x hx => hsp x (by simp [hx]))) (WideElems.Trod_stays Try.laidOut (by kernel_rfl) (of_decide_eq_true (by kernel_rfl)) k1 (fun x hx => hb.same (hlt x (by simp [hx]))) (fun x hx => hsp x (by simp [hx])))) (fun _ _ => rfl) (by simp)
    hb (ok_one (by kernel_rfl) rfl (okWide_bool_mk Try.underlying4 _))⟩

theorem slInputsOf_holds : Rows.FnExactInputsOfSaid :=
  OpenClaim.holds_of_wide 8 Try.f8 rfl rfl rfl rfl rfl rfl rfl ⟨rfl, rfl, rfl, rfl, rfl⟩ rfl rfl rfl rfl rfl (by kernel_rfl) Try.func8 (by kernel_rfl)
    (of_decide_eq_true (by kernel_rfl)) (by unfold Func.isWrapper; first | (rw [if_pos (by decide +kernel)]; kernel_rfl) | (rw [if_neg (by decide +kernel)]; exact ⟨rfl, rfl⟩))
    (fun os started H enc _ => slInputsOf_lifted os started H enc)
end Go.Proofs.Ythlkbkomecnbaaa
