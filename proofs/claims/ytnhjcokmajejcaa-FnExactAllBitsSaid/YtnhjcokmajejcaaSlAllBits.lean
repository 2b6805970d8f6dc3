/- For every input the law FnExactAllBits returns true: the function answers as its model, and writes into no argument. -/
import Derived.Test.YtnhjcokmajejcaaBitA
import Derived.Test.YtnhjcokmajejcaaTr
import Derived.Test.YtnhjcokmajejcaaIl
import Derived.Test.YtnhjcokmajejcaaEqSy
import Derived.Test.YtnhjcokmajejcaaOpenSy
import Derived.Test.YtnhjcokmajejcaaOpenSy
import Derived.Deep.RegionHeld3
namespace Go.Proofs.Ytnhjcokmajejcaa
open Go.ChangeShapes Go.WideShapes Go.ChangeAt Go.RowKit

theorem slAllBits_box {w : World} {v1 v2 : Value} (t : TypeId) : ∀ W, Below (w.alloc (.cells #[v1, v2] t)).heap.size (w.alloc (.cells #[v1, v2] t)) W →
    Below w.heap.size w W ∧ W.cell? ⟨w.heap.size, 0, none⟩ = some v1 ∧ W.cell? ⟨w.heap.size, 1, none⟩ = some v2 ∧ w.heap.size < W.heap.size :=
  fun W hW => ⟨below_call hW, ((Blk.new w _ _).below hW (by simp)).cell 0, ((Blk.new w _ _).below hW (by simp)).cell 1, by have := hW.size; simp at this; omega⟩

set_option maxRecDepth 100000 in
set_option maxHeartbeats 8000000 in
theorem slAllBits_any (s : Sy) (l : List Int) (A_s0 : Option Addr) (n_s0 c_s0 : Nat) (A_s1 : Option Addr) (n_s1 c_s1 : Nat) (A_l0 : Option Addr) (n_l0 c_l0 : Nat) (w : World) (h_s0 : Mem.rd w w.heap.size [.slice A_s0 n_s0 c_s0] s.vars) (h_s1 : Mem.rd w w.heap.size [.slice A_s1 n_s1 c_s1] s.rules) (h_l0 : Mem.rd w w.heap.size [.slice A_l0 n_l0 c_l0] l) :
    Calls Try.prog 3 #[.agg #[.slice A_s0 n_s0 c_s0, .slice A_s1 n_s1 c_s1], .slice A_l0 n_l0 c_l0] w (GivesBool w true) := by
  have m_s0 := rd_max h_s0
  have m_s1 := rd_max h_s1
  have m_l0 := rd_max h_l0
  unfold maxLen at m_s0 m_s1 m_l0
  by_cases big_l : 1048576 < n_l0
  · go_enter Try.func3, Try.ntmps3
    go_wp2
    go_ret
    exact ⟨rfl, by first | exact Below.refl _ _ | exact below_alloc _ _ | exact (below_alloc _ _).trans ((below_alloc _ _).mono (by simp))⟩
  by_cases big_s : 1048576 < (szSy s : Int)
  · go_enter Try.func3, Try.ntmps3
    go_wp2_with fail
    refine (szSystem_any s A_s0 n_s0 c_s0 A_s1 n_s1 c_s1 (1048576) _ (Mem.rd_on_alloc h_s0 _) (Mem.rd_on_alloc h_s1 _) (by omega) (by omega)).mono ?_
    rintro e v0 ⟨rfl, bz0⟩
    have k := bz0
    rw [rest_no big_s]
    go_wp2
    go_ret
    exact ⟨rfl, by first | exact Below.refl _ _ | exact below_alloc _ _ | exact below_call k | exact below_call (below_call k) | exact k⟩
  have fits_s := Lib.hid (Sy.fits_of (s := s) (by omega))
  have sz_s : szSy s ≤ 1048576 := by omega
  have i_l : n_l0 ≤ 1048576 := by omega
  have sz_l : l.length ≤ 1048576 := by rw [rd_len h_l0]; exact i_l
  have CS := Lib.hid (fun A_s0' n_s0' c_s0' A_s1' n_s1' c_s1' A_l0' n_l0' c_l0' w h_s0' h_s1' h_l0' => allBits_spec s l A_s0' n_s0' c_s0' A_s1' n_s1' c_s1' A_l0' n_l0' c_l0' w h_s0' h_s1' h_l0')
  have CI := Lib.hid (fun A_s0' n_s0' c_s0' A_s1' n_s1' c_s1' A_l0' n_l0' c_l0' w h_s0' h_s1' h_l0' => allBits_impl s l A_s0' n_s0' c_s0' A_s1' n_s1' c_s1' A_l0' n_l0' c_l0' w h_s0' h_s1' h_l0')
  have bF0 := allBitsB_sz s l
  generalize allBitsB s l = F0 at CS CI bF0
  obtain ⟨m0, hm0⟩ : ∃ m, m = mkII F0 := ⟨_, rfl⟩
  have ub0 := mkII_le bF0
  rw [← hm0] at ub0
  have HM0 := Lib.hid hm0
  have fF0 := Lib.hid (ii_fits bF0).2
  have bF0 := Lib.hid bF0
  clear hm0
  obtain ⟨mk_s, HM_s, hk_s⟩ : ∃ m : Nat, Hid (m = mkSy s) ∧ m ≤ 4 * 1048576 := ⟨_, Lib.hid rfl, by have := mkRls_le s.rules; unfold szSy at sz_s; unfold mkSy; omega⟩
  obtain ⟨mk_l, HM_l, hk_l⟩ : ∃ m : Nat, Hid (m = l.length) ∧ m ≤ 1048576 := ⟨_, Lib.hid rfl, sz_l⟩
  have BX := Lib.hid (slAllBits_box (w := w) (v1 := .slice A_s0 n_s0 c_s0) (v2 := .slice A_s1 n_s1 c_s1) 25)
  go_enter Try.func3, Try.ntmps3
  go_wp2_with fail
  refine (szSystem_any s A_s0 n_s0 c_s0 A_s1 n_s1 c_s1 (1048576) _ (Mem.rd_on_alloc h_s0 _) (Mem.rd_on_alloc h_s1 _) (by omega) (by omega)).mono ?_
  rintro e v0 ⟨rfl, bz0⟩
  have k := bz0
  rw [rest_yes (by omega)]
  skip
  obtain ⟨B, x0, x1, lx⟩ := BX.out _ k
  have plo_s_k := k.size
  go_wp2_with fail
  refine (toSystem_any s A_s0 n_s0 c_s0 A_s1 n_s1 c_s1 _ (Mem.rd_on h_s0 B) (Mem.rd_on h_s1 B) fits_s.out).mono ?_
  rintro e w1 ⟨pA_s0, pn_s0, pc_s0, pA_s1, pn_s1, pc_s1, pf_s0, pf_s1, rfl, po_s0, po_s1, pnd_s, plo_s, b1⟩
  have sb1 := b1.size
  have k := k.trans (b1.mono k.size)
  obtain ⟨B, x0, x1, lx⟩ := BX.out _ k
  have plo_s0 : ∀ b ∈ pf_s0, _ := fun b hb => plo_s b (List.mem_append_left _ hb)
  have plo_s0_hi := Mem.own_lt po_s0
  have plo_s1 : ∀ b ∈ pf_s1, _ := fun b hb => plo_s b (List.mem_append_right _ hb)
  have plo_s1_hi := Mem.own_lt po_s1
  have plo_s_hi : ∀ b ∈ pf_s0 ++ pf_s1, _ := fun b hb => (List.mem_append.1 hb).elim (plo_s0_hi b) (plo_s1_hi b)
  have plo_l_k := k.size
  go_wp2_with fail
  refine (toIntS_M A_l0 n_l0 c_l0 l _ (Mem.rd_on h_l0 B) i_l).mono ?_
  rintro e w2 ⟨pA_l0, pn_l0, pc_l0, pf_l0, rfl, po_l0, pnd_l, plo_l, b2⟩
  have sb2 := b2.size
  have k := k.trans (b2.mono k.size)
  have po_s0 := Mem.own_below po_s0 b2
  have po_s1 := Mem.own_below po_s1 b2
  obtain ⟨B, x0, x1, lx⟩ := BX.out _ k
  have plo_l_hi := Mem.own_lt po_l0
  have slo_k := k.size
  go_wp2_with fail
  refine (CS.out pA_s0 pn_s0 pc_s0 pA_s1 pn_s1 pc_s1 pA_l0 pn_l0 pc_l0  _ (Mem.own_rd po_s0) (Mem.own_rd po_s1) (Mem.own_rd po_l0)).mono ?_
  rintro e w3 ⟨sA0, sn0, sc0, sf0, rfl, so0, snd, slo, b3⟩
  have sb3 := b3.size
  have k := k.trans (b3.mono k.size)
  have po_s0 := Mem.own_below po_s0 b3
  have po_s1 := Mem.own_below po_s1 b3
  have po_l0 := Mem.own_below po_l0 b3
  obtain ⟨B, x0, x1, lx⟩ := BX.out _ k
  have slo_hi := Mem.own_lt so0
  have xlo_s_k := k.size
  go_wp2_with fail
  refine (toSystem_any s A_s0 n_s0 c_s0 A_s1 n_s1 c_s1 _ (Mem.rd_on h_s0 B) (Mem.rd_on h_s1 B) fits_s.out).mono ?_
  rintro e w4 ⟨xA_s0, xn_s0, xc_s0, xA_s1, xn_s1, xc_s1, xf_s0, xf_s1, rfl, xo_s0, xo_s1, xnd_s, xlo_s, b4⟩
  have sb4 := b4.size
  have k := k.trans (b4.mono k.size)
  have so0 := Mem.own_below so0 b4
  obtain ⟨B, x0, x1, lx⟩ := BX.out _ k
  have xlo_s0 : ∀ b ∈ xf_s0, _ := fun b hb => xlo_s b (List.mem_append_left _ hb)
  have xlo_s0_hi := Mem.own_lt xo_s0
  have xlo_s1 : ∀ b ∈ xf_s1, _ := fun b hb => xlo_s b (List.mem_append_right _ hb)
  have xlo_s1_hi := Mem.own_lt xo_s1
  have xlo_s_hi : ∀ b ∈ xf_s0 ++ xf_s1, _ := fun b hb => (List.mem_append.1 hb).elim (xlo_s0_hi b) (xlo_s1_hi b)
  have xlo_l_k := k.size
  go_wp2_with fail
  refine (toIntS_M A_l0 n_l0 c_l0 l _ (Mem.rd_on_alloc (Mem.rd_on h_l0 B) _) i_l).mono ?_
  rintro e w5 ⟨xA_l0, xn_l0, xc_l0, xf_l0, rfl, xo_l0, xnd_l, xlo_l, b5⟩
  obtain ⟨_, xy_s0, xy_s1, xl_s⟩ := slAllBits_box 33 w5 b5
  have zb5 := b5.size; rw [World.size_alloc] at zb5
  have b5 := below_call b5
  have sb5 := b5.size
  have k := k.trans (b5.mono k.size)
  have so0 := Mem.own_below so0 b5
  have xo_s0 := Mem.own_below xo_s0 b5
  have xo_s1 := Mem.own_below xo_s1 b5
  obtain ⟨B, x0, x1, lx⟩ := BX.out _ k
  simp only [World.size_alloc] at xlo_l
  have xlo_l_hi := Mem.own_lt xo_l0
  have glo_k := k.size
  go_wp2_with fail
  refine (CI.out xA_s0 xn_s0 xc_s0 xA_s1 xn_s1 xc_s1 xA_l0 xn_l0 xc_l0  _ (Mem.own_rd xo_s0) (Mem.own_rd xo_s1) (Mem.own_rd xo_l0)).mono ?_
  rintro e w6 ⟨gA0, gn0, gc0, gf0, rfl, go0, gnd, glo, b6⟩
  have sb6 := b6.size
  have k := k.trans (b6.mono k.size)
  have xy_s0 := cell_below b6 (p := ⟨w4.heap.size, 0, none⟩) xl_s xy_s0
  have xy_s1 := cell_below b6 (p := ⟨w4.heap.size, 1, none⟩) xl_s xy_s1
  have xl_s := Nat.lt_of_lt_of_le xl_s sb6
  have so0 := Mem.own_below so0 b6
  have xo_s0 := Mem.own_below xo_s0 b6
  have xo_s1 := Mem.own_below xo_s1 b6
  have xo_l0 := Mem.own_below xo_l0 b6
  obtain ⟨B, x0, x1, lx⟩ := BX.out _ k
  have glo_hi := Mem.own_lt go0
  go_wp2_with fail
  refine (eqIntSS_same gA0 sA0 gn0 gc0 sn0 sc0 F0 _ (Mem.own_rd go0) (Mem.own_rd so0) fF0.out).mono ?_
  rintro e w7 ⟨rfl, b7⟩
  have sb7 := b7.size
  have k := k.trans (b7.mono k.size)
  have xy_s0 := cell_below b7 (p := ⟨w4.heap.size, 0, none⟩) xl_s xy_s0
  have xy_s1 := cell_below b7 (p := ⟨w4.heap.size, 1, none⟩) xl_s xy_s1
  have xl_s := Nat.lt_of_lt_of_le xl_s sb7
  have so0 := Mem.own_below so0 b7
  have xo_s0 := Mem.own_below xo_s0 b7
  have xo_s1 := Mem.own_below xo_s1 b7
  have xo_l0 := Mem.own_below xo_l0 b7
  have go0 := Mem.own_below go0 b7
  obtain ⟨B, x0, x1, lx⟩ := BX.out _ k
  have r0_ := Mem.own_rd xo_s0
  have r1_ := Mem.own_rd xo_s1
  go_wp2
  go_region_held3 (fun w' => w'.cell? ⟨w.heap.size, 0, none⟩ = some (.slice A_s0 n_s0 c_s0) ∧ w'.cell? ⟨w.heap.size, 1, none⟩ = some (.slice A_s1 n_s1 c_s1) ∧ w'.cell? ⟨w4.heap.size, 0, none⟩ = some (.slice xA_s0 xn_s0 xc_s0) ∧ w'.cell? ⟨w4.heap.size, 1, none⟩ = some (.slice xA_s1 xn_s1 xc_s1)) (go_keep)
    (first
      | (go_at_call 8; refine (toSystem_any s A_s0 n_s0 c_s0 A_s1 n_s1 c_s1 w7.drew (Mem.rd_drew (Mem.rd_on h_s0 B)) (Mem.rd_drew (Mem.rd_on h_s1 B)) fits_s.out).mono ?_; rintro e w8 ⟨R1, g1, j1, R2, g2, j2, q5, q6, rfl, u5, u6, _, _, b8⟩
         have z0 := cell_below b8 (p := ⟨w.heap.size, 0, none⟩) lx x0
         have z1 := cell_below b8 (p := ⟨w.heap.size, 1, none⟩) lx x1
         have z2 := cell_below b8 (p := ⟨w4.heap.size, 0, none⟩) xl_s xy_s0
         have z3 := cell_below b8 (p := ⟨w4.heap.size, 1, none⟩) xl_s xy_s1
         have l7 := Nat.lt_of_lt_of_le lx b8.size
         have m7 := Nat.lt_of_lt_of_le xl_s b8.size)
      | (go_at_call 12; refine (eqSystem_same s xA_s0 xn_s0 xc_s0 xA_s1 xn_s1 xc_s1 R1 g1 j1 R2 g2 j2 _ (Mem.rd_on (Mem.rd_drew r0_) b8) (Mem.rd_on (Mem.rd_drew r1_) b8) (Mem.own_rd u5) (Mem.own_rd u6) fits_s.out).mono ?_; rintro e w9 ⟨rfl, b9⟩
         have z0 := cell_below b9 (p := ⟨w.heap.size, 0, none⟩) l7 z0
         have z1 := cell_below b9 (p := ⟨w.heap.size, 1, none⟩) l7 z1
         have z2 := cell_below b9 (p := ⟨w4.heap.size, 0, none⟩) m7 z2
         have z3 := cell_below b9 (p := ⟨w4.heap.size, 1, none⟩) m7 z3))
  have b9 := (show Below w7.heap.size w7 w8 from ⟨b8.os, b8.tape, b8.output, b8.size, b8.block⟩).trans (b9.mono b8.size)
  clear r0_ r1_
  have sb9 := b9.size
  have k := k.trans (b9.mono k.size)
  have xy_s0 := cell_below b9 (p := ⟨w4.heap.size, 0, none⟩) xl_s xy_s0
  have xy_s1 := cell_below b9 (p := ⟨w4.heap.size, 1, none⟩) xl_s xy_s1
  have xl_s := Nat.lt_of_lt_of_le xl_s sb9
  have so0 := Mem.own_below so0 b9
  have xo_s0 := Mem.own_below xo_s0 b9
  have xo_s1 := Mem.own_below xo_s1 b9
  have xo_l0 := Mem.own_below xo_l0 b9
  have go0 := Mem.own_below go0 b9
  obtain ⟨B, x0, x1, lx⟩ := BX.out _ k
  have elo_l_k := k.size
  go_wp2_with fail
  refine (toIntS_M A_l0 n_l0 c_l0 l _ (Mem.rd_on h_l0 B) i_l).mono ?_
  rintro e w10 ⟨eA_l0, en_l0, ec_l0, ef_l0, rfl, eo_l0, end_l, elo_l, b10⟩
  have sb10 := b10.size
  have k := k.trans (b10.mono k.size)
  have xy_s0 := cell_below b10 (p := ⟨w4.heap.size, 0, none⟩) xl_s xy_s0
  have xy_s1 := cell_below b10 (p := ⟨w4.heap.size, 1, none⟩) xl_s xy_s1
  have xl_s := Nat.lt_of_lt_of_le xl_s sb10
  have so0 := Mem.own_below so0 b10
  have xo_s0 := Mem.own_below xo_s0 b10
  have xo_s1 := Mem.own_below xo_s1 b10
  have xo_l0 := Mem.own_below xo_l0 b10
  have go0 := Mem.own_below go0 b10
  obtain ⟨B, x0, x1, lx⟩ := BX.out _ k
  have elo_l_hi := Mem.own_lt eo_l0
  go_wp2_with fail
  refine (eqIntS_M xA_l0 eA_l0 xn_l0 xc_l0 en_l0 ec_l0 l _ (Mem.own_rd xo_l0) (Mem.own_rd eo_l0)).mono ?_
  rintro e w11 ⟨rfl, b11⟩
  have sb11 := b11.size
  have k := k.trans (b11.mono k.size)
  have xy_s0 := cell_below b11 (p := ⟨w4.heap.size, 0, none⟩) xl_s xy_s0
  have xy_s1 := cell_below b11 (p := ⟨w4.heap.size, 1, none⟩) xl_s xy_s1
  have xl_s := Nat.lt_of_lt_of_le xl_s sb11
  have so0 := Mem.own_below so0 b11
  have xo_s0 := Mem.own_below xo_s0 b11
  have xo_s1 := Mem.own_below xo_s1 b11
  have xo_l0 := Mem.own_below xo_l0 b11
  have go0 := Mem.own_below go0 b11
  have eo_l0 := Mem.own_below eo_l0 b11
  obtain ⟨B, x0, x1, lx⟩ := BX.out _ k
  go_wp2_with fail
  refine (markSystem_M s xA_s0 xn_s0 xc_s0 xA_s1 xn_s1 xc_s1 xf_s0 xf_s1 (1) _ xo_s0 xo_s1 xnd_s (by omega) (by omega) sz_s).mono ?_
  rintro e w12 ⟨rfl, b12⟩
  have sb12 := b12.size
  have k := k.trans (b12.below (by have := k.size; omega) fun b hb => by have := xlo_s b hb; have := xlo_s_k; omega)
  have so0 := Mem.own_only so0 b12 fun b hb hc => by have := slo b hb; have := slo_hi b hb; have := xlo_s b hc; have := xlo_s_hi b hc; omega
  have xo_l0 := Mem.own_only xo_l0 b12 fun b hb hc => by have := xlo_l b hb; have := xlo_l_hi b hb; have := xlo_s b hc; have := xlo_s_hi b hc; omega
  have go0 := Mem.own_only go0 b12 fun b hb hc => by have := glo b hb; have := glo_hi b hb; have := xlo_s b hc; have := xlo_s_hi b hc; omega
  obtain ⟨B, x0, x1, lx⟩ := BX.out _ k
  rw [← HM_s.out]
  go_wp2_with fail
  refine (markIntS_M xA_l0 xn_l0 xc_l0 l xf_l0 (1 + (mk_s : Int)) _ xo_l0 (by omega) (by omega) sz_l).mono ?_
  rintro e w13 ⟨rfl, b13⟩
  have sb13 := b13.size
  have k := k.trans (b13.below (by have := k.size; omega) fun b hb => by have := xlo_l b hb; have := xlo_l_k; omega)
  have so0 := Mem.own_only so0 b13 fun b hb hc => by have := slo b hb; have := slo_hi b hb; have := xlo_l b hc; have := xlo_l_hi b hc; omega
  have go0 := Mem.own_only go0 b13 fun b hb hc => by have := glo b hb; have := glo_hi b hb; have := xlo_l b hc; have := xlo_l_hi b hc; omega
  obtain ⟨B, x0, x1, lx⟩ := BX.out _ k
  rw [← HM_l.out]
  go_wp2_with fail
  refine (eqIntSS_same gA0 sA0 gn0 gc0 sn0 sc0 F0 _ (Mem.own_rd go0) (Mem.own_rd so0) fF0.out).mono ?_
  rintro e w14 ⟨rfl, b14⟩
  have sb14 := b14.size
  have k := k.trans (b14.mono k.size)
  have so0 := Mem.own_below so0 b14
  have go0 := Mem.own_below go0 b14
  obtain ⟨B, x0, x1, lx⟩ := BX.out _ k
  go_wp2_with fail
  refine (markIntSS_W gA0 gn0 gc0 F0 gf0 (1) _ go0 gnd (by omega) (by omega) bF0.out).mono ?_
  rintro e w15 ⟨rfl, go0, b15⟩
  have sb15 := b15.size
  have k := k.trans (b15.below (by have := k.size; omega) fun b hb => by have := glo b hb; have := glo_k; omega)
  have so0 := Mem.own_only so0 b15 fun b hb hc => by have := slo b hb; have := slo_hi b hb; have := glo b hc; have := glo_hi b hc; omega
  obtain ⟨B, x0, x1, lx⟩ := BX.out _ k
  rw [← HM0.out]
  have nq : (1 + (m0 : Int) != 1 + (m0 : Int)) = false := by simp
  go_wp2_with fail
  refine (heldIntSS_W gA0 gn0 gc0 F0 (1) _ (Mem.own_rd go0) (by omega) (by omega) bF0.out).mono ?_
  rintro e w16 ⟨rfl, b16⟩
  have sb16 := b16.size
  have k := k.trans (b16.mono k.size)
  have so0 := Mem.own_below so0 b16
  have go0 := Mem.own_below go0 b16
  obtain ⟨B, x0, x1, lx⟩ := BX.out _ k
  rw [← HM0.out]
  have qlo_s_k := k.size
  go_wp2_with fail
  refine (toSystem_any s A_s0 n_s0 c_s0 A_s1 n_s1 c_s1 _ (Mem.rd_on h_s0 B) (Mem.rd_on h_s1 B) fits_s.out).mono ?_
  rintro e w17 ⟨qA_s0, qn_s0, qc_s0, qA_s1, qn_s1, qc_s1, qf_s0, qf_s1, rfl, qo_s0, qo_s1, qnd_s, qlo_s, b17⟩
  have sb17 := b17.size
  have k := k.trans (b17.mono k.size)
  have so0 := Mem.own_below so0 b17
  have go0 := Mem.own_below go0 b17
  obtain ⟨B, x0, x1, lx⟩ := BX.out _ k
  have qlo_s0 : ∀ b ∈ qf_s0, _ := fun b hb => qlo_s b (List.mem_append_left _ hb)
  have qlo_s0_hi := Mem.own_lt qo_s0
  have qlo_s1 : ∀ b ∈ qf_s1, _ := fun b hb => qlo_s b (List.mem_append_right _ hb)
  have qlo_s1_hi := Mem.own_lt qo_s1
  have qlo_s_hi : ∀ b ∈ qf_s0 ++ qf_s1, _ := fun b hb => (List.mem_append.1 hb).elim (qlo_s0_hi b) (qlo_s1_hi b)
  have qlo_l_k := k.size
  go_wp2_with fail
  refine (toIntS_M A_l0 n_l0 c_l0 l _ (Mem.rd_on h_l0 B) i_l).mono ?_
  rintro e w18 ⟨qA_l0, qn_l0, qc_l0, qf_l0, rfl, qo_l0, qnd_l, qlo_l, b18⟩
  have sb18 := b18.size
  have k := k.trans (b18.mono k.size)
  have so0 := Mem.own_below so0 b18
  have go0 := Mem.own_below go0 b18
  have qo_s0 := Mem.own_below qo_s0 b18
  have qo_s1 := Mem.own_below qo_s1 b18
  obtain ⟨B, x0, x1, lx⟩ := BX.out _ k
  have qlo_l_hi := Mem.own_lt qo_l0
  have hlo_k := k.size
  go_wp2_with fail
  refine (CI.out qA_s0 qn_s0 qc_s0 qA_s1 qn_s1 qc_s1 qA_l0 qn_l0 qc_l0  _ (Mem.own_rd qo_s0) (Mem.own_rd qo_s1) (Mem.own_rd qo_l0)).mono ?_
  rintro e w19 ⟨hA0, hn0, hc0, hf0, rfl, ho0, hnd, hlo, b19⟩
  have sb19 := b19.size
  have k := k.trans (b19.mono k.size)
  have so0 := Mem.own_below so0 b19
  have go0 := Mem.own_below go0 b19
  have qo_s0 := Mem.own_below qo_s0 b19
  have qo_s1 := Mem.own_below qo_s1 b19
  have qo_l0 := Mem.own_below qo_l0 b19
  obtain ⟨B, x0, x1, lx⟩ := BX.out _ k
  have hlo_hi := Mem.own_lt ho0
  go_wp2_with fail
  refine (eqIntSS_same hA0 sA0 hn0 hc0 sn0 sc0 F0 _ (Mem.own_rd ho0) (Mem.own_rd so0) fF0.out).mono ?_
  rintro e w20 ⟨rfl, b20⟩
  have sb20 := b20.size
  have k := k.trans (b20.mono k.size)
  have so0 := Mem.own_below so0 b20
  have go0 := Mem.own_below go0 b20
  have ho0 := Mem.own_below ho0 b20
  obtain ⟨B, x0, x1, lx⟩ := BX.out _ k
  go_wp2_with fail
  refine (heldIntSS_W gA0 gn0 gc0 F0 (1) _ (Mem.own_rd go0) (by omega) (by omega) bF0.out).mono ?_
  rintro e w21 ⟨rfl, b21⟩
  have sb21 := b21.size
  have k := k.trans (b21.mono k.size)
  have so0 := Mem.own_below so0 b21
  have go0 := Mem.own_below go0 b21
  have ho0 := Mem.own_below ho0 b21
  obtain ⟨B, x0, x1, lx⟩ := BX.out _ k
  rw [← HM0.out]
  go_wp2
  go_ret
  exact ⟨rfl, B⟩

set_option maxRecDepth 100000 in
theorem slAllBits_lifted (os : Os) (started : os.Started) (H : Type) (enc : TypeId × Value → H) :
    ReturnsInHanded {} Try.checked os 3 .any (Rows.fnExactAllBitsSpec.pre6 enc Try.prog Try.f3 Rows.fnExactAllBitsRow.domain false) (Rows.fnExactAllBitsSpec.post enc Try.prog Try.f3 false true false false) := by
  refine returnsInHanded_of_change (C := Try.checked) Try.own started (by kernel_rfl) Try.func3
    (ChangeSpec.witness6 (enc := enc) (C := Try.checked) false ⟨#[], #[.agg #[.slice none 0 0, .slice none 0 0], .slice none 0 0], []⟩ 8 (by kernel_rfl) (by kernel_rfl) (by kernel_rfl) (by kernel_rfl)) ?_
  intro W base args ds gs before hval0 hW hcnd _
  have hval : ∀ (j : Nat) t v, Try.f3.params[j]? = some t → args[j]? = some v → Value.okWide Try.prog W .any base t v := hval0
  have hW' := hW
  have hW2 := hW
  obtain ⟨p, q, hA0, hV, rfl, hfz, hnd⟩ := hW2
  have hA : DataW.TrodAll enc Try.prog W 0 (fun _ => true) true Try.f3.params.toList args.toList ds p := hA0
  rw [Try.params3] at hA hval
  obtain ⟨u0, u1, d0, d1, p0, p1, rfl, rfl, rfl, h0, h1⟩ := trodAll_two hA
  obtain ⟨rfl, rfl⟩ := trodVars_none hV
  have k0 := h0
  obtain ⟨A_s0, n_s0, c_s0, A_s1, n_s1, c_s1, s, rfl, ra0, rb0⟩ := open_system (hval 0 25 u0 rfl rfl) h0
  have k1 := h1
  obtain ⟨A_l0, n_l0, c_l0, l, rfl, mm1, rr1⟩ := open_intS (hval 1 26 u1 rfl rfl) h1
  clear hA0 hval0
  simp only [List.append_nil] at hW'
  have hlt : ∀ x ∈ p0 ++ p1, x.block < W.heap.size := fun x hx => hW'.lt x (by simpa using hx)
  refine (slAllBits_any s l A_s0 n_s0 c_s0 A_s1 n_s1 c_s1 A_l0 n_l0 c_l0 W ra0 rb0 (rd_ints.2 ⟨mm1, rr1⟩)).mono fun e W' ⟨he, hb⟩ => ?_
  subst he
  exact ⟨_, rfl, post_below (pa := p0 ++ p1) (pv := []) hW' (fun _ _ _ => trodAll_mk1 (shut_bool Try.underlying4 _))
    (fun sp hsp => trodAll_mk2 (WideElems.Trod_stays Try.laidOut (by kernel_rfl) (of_decide_eq_true (by kernel_rfl)) k0 (fun x hx => hb.same (hlt x (by simp [hx]))) (fun x hx => hsp x (by simp [hx]))) (WideElems.Trod_stays Try.laidOut (by kernel_rfl) (of_decide_eq_true (by kernel_rfl)) k1 (fun x hx => hb.same (hlt x (by simp [hx]))) (fun x hx => hsp x (by simp [hx])))) (fun _ _ => rfl) (by simp)
    hb (ok_one (by kernel_rfl) rfl (okWide_bool_mk Try.underlying4 _))⟩

theorem slAllBits_holds : Rows.FnExactAllBitsSaid :=
  OpenClaim.holds_of_wide 3 Try.f3 rfl rfl rfl rfl rfl rfl rfl ⟨rfl, rfl, rfl, rfl, rfl⟩ rfl rfl rfl rfl rfl (by kernel_rfl) Try.func3 (by kernel_rfl)
    (of_decide_eq_true (by kernel_rfl)) (by unfold Func.isWrapper; first | (rw [if_pos (by decide +kernel)]; kernel_rfl) | (rw [if_neg (by decide +kernel)]; exact ⟨rfl, rfl⟩))
    (fun os started H enc _ => slAllBits_lifted os started H enc)
end Go.Proofs.Ytnhjcokmajejcaa
