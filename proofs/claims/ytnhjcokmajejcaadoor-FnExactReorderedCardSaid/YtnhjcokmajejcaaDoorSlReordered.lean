/- For every input the law FnExactReordered returns true: the function answers as its model, and writes into no argument. -/
import Derived.Test.YtnhjcokmajejcaaDoorReI
import Derived.Test.YtnhjcokmajejcaaDoorReS
import Derived.Test.YtnhjcokmajejcaaDoorDoorC
import Derived.Test.YtnhjcokmajejcaaDoorIl
import Derived.Test.YtnhjcokmajejcaaDoorEqSy
import Derived.Test.YtnhjcokmajejcaaDoorOpenSy
import Derived.Test.YtnhjcokmajejcaaDoorOpenSy
import Derived.Deep.RegionHeld3
namespace Go.Proofs.YtnhjcokmajejcaaDoor
open Go.ChangeShapes Go.WideShapes Go.ChangeAt Go.RowKit

theorem slReordered_box {w : World} {v1 v2 : Value} (t : TypeId) : ∀ W, Below (w.alloc (.cells #[v1, v2] t)).heap.size (w.alloc (.cells #[v1, v2] t)) W →
    Below w.heap.size w W ∧ W.cell? ⟨w.heap.size, 0, none⟩ = some v1 ∧ W.cell? ⟨w.heap.size, 1, none⟩ = some v2 ∧ w.heap.size < W.heap.size :=
  fun W hW => ⟨below_call hW, ((ci_blk w _ _).below hW (by simp)).cell 0, ((ci_blk w _ _).below hW (by simp)).cell 1, by have := hW.size; simp at this; omega⟩

set_option maxRecDepth 100000 in
set_option maxHeartbeats 8000000 in
theorem slReordered_any (dg : Dg) (nn : Int) (l : List Int) (A_dg0 : Option Addr) (n_dg0 c_dg0 : Nat) (A_l0 : Option Addr) (n_l0 c_l0 : Nat) (w : World) (h_dg0 : Mem.rd w w.heap.size [.slice A_dg0 n_dg0 c_dg0] dg.forks) (h_l0 : Mem.rd w w.heap.size [.slice A_l0 n_l0 c_l0] l) (hT : DoorAt w) :
    Calls Tryd.prog 5 #[.agg #[.int .i64 dg.vars, .slice A_dg0 n_dg0 c_dg0], .int .i64 nn, .slice A_l0 n_l0 c_l0] w (GivesBool w true) := by
  have m_dg0 := rd_max h_dg0
  have m_l0 := rd_max h_l0
  unfold maxLen at m_dg0 m_l0
  by_cases big_l : 1048576 < n_l0
  · go_enter Tryd.func5, Tryd.ntmps5
    go_wp2
    go_ret
    exact ⟨rfl, by first | exact Below.refl _ _ | exact below_alloc _ _ | exact (below_alloc _ _).trans ((below_alloc _ _).mono (by simp))⟩
  by_cases big_dg : 1048576 < (szDg dg : Int)
  · go_enter Tryd.func5, Tryd.ntmps5
    go_wp2_with fail
    refine (szDiagram_any dg A_dg0 n_dg0 c_dg0 (1048576) _ (Mem.rd_on_alloc h_dg0 _) (by omega) (by omega)).mono ?_
    rintro e v0 ⟨rfl, bz0⟩
    have k := bz0
    rw [rest_no big_dg]
    go_wp2
    go_ret
    exact ⟨rfl, by first | exact Below.refl _ _ | exact below_alloc _ _ | exact below_call k | exact below_call (below_call k) | exact k⟩
  have sz_dg : dg.forks.length ≤ 1048576 := by have : szDg dg = dg.forks.length := rfl; omega
  have fits_dg := Lib.hid sz_dg
  have i_l : n_l0 ≤ 1048576 := by omega
  have sz_l : l.length ≤ 1048576 := by rw [rd_len h_l0]; exact i_l
  have CS := Lib.hid (fun A_dg0' n_dg0' c_dg0' A_l0' n_l0' c_l0' w h_dg0' h_l0' => reo_specR dg nn l A_dg0' n_dg0' c_dg0' A_l0' n_l0' c_l0' w h_dg0' h_l0')
  have CI := Lib.hid (fun A_dg0' n_dg0' c_dg0' A_l0' n_l0' c_l0' w h_dg0' h_l0' (hT : DoorAt w) => reo_implR dg nn l A_dg0' n_dg0' c_dg0' A_l0' n_l0' c_l0' w h_dg0' h_l0' hT)
  have HT := Lib.hid hT
  clear hT
  have bS := reo1_len dg nn l
  generalize reo1 dg nn l = F0 at CS CI bS
  generalize reo2 dg nn l = F1 at CS CI
  have nz1 : (F1 != F1) = false := by simp
  have bS := Lib.hid bS
  obtain ⟨mk_dg, HM_dg, hk_dg⟩ : ∃ m : Nat, Hid (m = mkDg dg) ∧ m ≤ 3 * 1048576 := ⟨_, Lib.hid rfl, by unfold mkDg; omega⟩
  obtain ⟨mk_l, HM_l, hk_l⟩ : ∃ m : Nat, Hid (m = l.length) ∧ m ≤ 1048576 := ⟨_, Lib.hid rfl, sz_l⟩
  have BX := Lib.hid (slReordered_box (w := w) (v1 := .int .i64 dg.vars) (v2 := .slice A_dg0 n_dg0 c_dg0) 44)
  go_enter Tryd.func5, Tryd.ntmps5
  go_wp2_with fail
  refine (szDiagram_any dg A_dg0 n_dg0 c_dg0 (1048576) _ (Mem.rd_on_alloc h_dg0 _) (by omega) (by omega)).mono ?_
  rintro e v0 ⟨rfl, bz0⟩
  have k := bz0
  rw [rest_yes (by omega)]
  skip
  obtain ⟨B, x0, x1, lx⟩ := BX.out _ k
  have plo_dg_k := k.size
  go_wp2_with fail
  refine (toDiagram_any dg A_dg0 n_dg0 c_dg0 _ (Mem.rd_on h_dg0 B) fits_dg.out).mono ?_
  rintro e w1 ⟨pA_dg0, pn_dg0, pc_dg0, pf_dg0, rfl, po_dg0, pnd_dg, plo_dg, b1⟩
  have sb1 := b1.size
  have k := k.trans (b1.mono k.size)
  obtain ⟨B, x0, x1, lx⟩ := BX.out _ k
  have plo_dg_hi := Mem.own_lt po_dg0
  have plo_l_k := k.size
  go_wp2_with fail
  refine (toIntS_M A_l0 n_l0 c_l0 l _ (Mem.rd_on h_l0 B) i_l).mono ?_
  rintro e w2 ⟨pA_l0, pn_l0, pc_l0, pf_l0, rfl, po_l0, pnd_l, plo_l, b2⟩
  have sb2 := b2.size
  have k := k.trans (b2.mono k.size)
  have po_dg0 := Mem.own_below po_dg0 b2
  obtain ⟨B, x0, x1, lx⟩ := BX.out _ k
  have plo_l_hi := Mem.own_lt po_l0
  have slo_k := k.size
  go_wp2_with fail
  refine (CS.out pA_dg0 pn_dg0 pc_dg0 pA_l0 pn_l0 pc_l0  _ (Mem.own_rd po_dg0) (Mem.own_rd po_l0)).mono ?_
  rintro e w3 ⟨sA0, sn0, sc0, sf0, rfl, so0, snd, slo, b3⟩
  have sb3 := b3.size
  have k := k.trans (b3.mono k.size)
  have po_dg0 := Mem.own_below po_dg0 b3
  have po_l0 := Mem.own_below po_l0 b3
  obtain ⟨B, x0, x1, lx⟩ := BX.out _ k
  have slo_hi := Mem.own_lt so0
  have xlo_dg_k := k.size
  go_wp2_with fail
  refine (toDiagram_any dg A_dg0 n_dg0 c_dg0 _ (Mem.rd_on_alloc (Mem.rd_on h_dg0 B) _) fits_dg.out).mono ?_
  rintro e w4 ⟨xA_dg0, xn_dg0, xc_dg0, xf_dg0, rfl, xo_dg0, xnd_dg, xlo_dg, b4⟩
  obtain ⟨_, sy0, sy1, sl⟩ := slReordered_box 35 w4 b4
  have zb4 := b4.size; rw [World.size_alloc] at zb4
  have b4 := below_call b4
  have sb4 := b4.size
  have k := k.trans (b4.mono k.size)
  have so0 := Mem.own_below so0 b4
  obtain ⟨B, x0, x1, lx⟩ := BX.out _ k
  simp only [World.size_alloc] at xlo_dg
  have xlo_dg_hi := Mem.own_lt xo_dg0
  have xlo_l_k := k.size
  go_wp2_with fail
  refine (toIntS_M A_l0 n_l0 c_l0 l _ (Mem.rd_on_alloc (Mem.rd_on h_l0 B) _) i_l).mono ?_
  rintro e w5 ⟨xA_l0, xn_l0, xc_l0, xf_l0, rfl, xo_l0, xnd_l, xlo_l, b5⟩
  obtain ⟨_, xy_dg0, xy_dg1, xl_dg⟩ := slReordered_box 35 w5 b5
  have zb5 := b5.size; rw [World.size_alloc] at zb5
  have b5 := below_call b5
  have sb5 := b5.size
  have k := k.trans (b5.mono k.size)
  have sy0 := cell_below b5 (p := ⟨w3.heap.size, 0, none⟩) sl sy0
  have sy1 := cell_below b5 (p := ⟨w3.heap.size, 1, none⟩) sl sy1
  have sl := Nat.lt_of_lt_of_le sl sb5
  have so0 := Mem.own_below so0 b5
  have xo_dg0 := Mem.own_below xo_dg0 b5
  obtain ⟨B, x0, x1, lx⟩ := BX.out _ k
  simp only [World.size_alloc] at xlo_l
  have xlo_l_hi := Mem.own_lt xo_l0
  have glo_k := k.size
  go_wp2_with fail
  refine (CI.out xA_dg0 xn_dg0 xc_dg0 xA_l0 xn_l0 xc_l0  _ (Mem.own_rd xo_dg0) (Mem.own_rd xo_l0) (HT.out.on B)).mono ?_
  rintro e w6 ⟨gA0, gn0, gc0, gf0, rfl, go0, gnd, glo, b6⟩
  have sb6 := b6.size
  have k := k.trans (b6.mono k.size)
  have sy0 := cell_below b6 (p := ⟨w3.heap.size, 0, none⟩) sl sy0
  have sy1 := cell_below b6 (p := ⟨w3.heap.size, 1, none⟩) sl sy1
  have xy_dg0 := cell_below b6 (p := ⟨w4.heap.size, 0, none⟩) xl_dg xy_dg0
  have xy_dg1 := cell_below b6 (p := ⟨w4.heap.size, 1, none⟩) xl_dg xy_dg1
  have sl := Nat.lt_of_lt_of_le sl sb6
  have xl_dg := Nat.lt_of_lt_of_le xl_dg sb6
  have so0 := Mem.own_below so0 b6
  have xo_dg0 := Mem.own_below xo_dg0 b6
  have xo_l0 := Mem.own_below xo_l0 b6
  obtain ⟨B, x0, x1, lx⟩ := BX.out _ k
  have glo_hi := Mem.own_lt go0
  go_wp2_with fail
  refine (eqDiagram_same F0 gA0 gn0 gc0 sA0 sn0 sc0 _ (Mem.rd_on_alloc (Mem.own_rd go0) _) (Mem.rd_on_alloc (Mem.own_rd so0) _) bS.out).mono ?_
  rintro e w7 ⟨rfl, b7⟩
  obtain ⟨_, gy0, gy1, gl⟩ := slReordered_box 35 w7 b7
  have zb7 := b7.size; rw [World.size_alloc] at zb7
  have b7 := below_call b7
  have sb7 := b7.size
  have k := k.trans (b7.mono k.size)
  have sy0 := cell_below b7 (p := ⟨w3.heap.size, 0, none⟩) sl sy0
  have sy1 := cell_below b7 (p := ⟨w3.heap.size, 1, none⟩) sl sy1
  have xy_dg0 := cell_below b7 (p := ⟨w4.heap.size, 0, none⟩) xl_dg xy_dg0
  have xy_dg1 := cell_below b7 (p := ⟨w4.heap.size, 1, none⟩) xl_dg xy_dg1
  have sl := Nat.lt_of_lt_of_le sl sb7
  have xl_dg := Nat.lt_of_lt_of_le xl_dg sb7
  have so0 := Mem.own_below so0 b7
  have xo_dg0 := Mem.own_below xo_dg0 b7
  have xo_l0 := Mem.own_below xo_l0 b7
  have go0 := Mem.own_below go0 b7
  obtain ⟨B, x0, x1, lx⟩ := BX.out _ k
  have r0_ := Mem.own_rd xo_dg0
  go_wp2
  go_region_held3 (fun w' => w'.cell? ⟨w.heap.size, 0, none⟩ = some (.int .i64 dg.vars) ∧ w'.cell? ⟨w.heap.size, 1, none⟩ = some (.slice A_dg0 n_dg0 c_dg0) ∧ w'.cell? ⟨w4.heap.size, 0, none⟩ = some (.int .i64 dg.vars) ∧ w'.cell? ⟨w4.heap.size, 1, none⟩ = some (.slice xA_dg0 xn_dg0 xc_dg0)) (go_keep)
    (first
      | (go_at_call 20; refine (toDiagram_any dg A_dg0 n_dg0 c_dg0 w7.drew (Mem.rd_drew (Mem.rd_on h_dg0 B)) fits_dg.out).mono ?_; rintro e w8 ⟨R1, g1, j1, q5, rfl, u5, _, _, b8⟩
         have z0 := cell_below b8 (p := ⟨w.heap.size, 0, none⟩) lx x0
         have z1 := cell_below b8 (p := ⟨w.heap.size, 1, none⟩) lx x1
         have z2 := cell_below b8 (p := ⟨w4.heap.size, 0, none⟩) xl_dg xy_dg0
         have z3 := cell_below b8 (p := ⟨w4.heap.size, 1, none⟩) xl_dg xy_dg1
         have l7 := Nat.lt_of_lt_of_le lx b8.size
         have m7 := Nat.lt_of_lt_of_le xl_dg b8.size)
      | (go_at_call 14; refine (eqDiagram_same dg xA_dg0 xn_dg0 xc_dg0 R1 g1 j1 _ (Mem.rd_on (Mem.rd_drew r0_) b8) (Mem.own_rd u5) fits_dg.out).mono ?_; rintro e w9 ⟨rfl, b9⟩
         have z0 := cell_below b9 (p := ⟨w.heap.size, 0, none⟩) l7 z0
         have z1 := cell_below b9 (p := ⟨w.heap.size, 1, none⟩) l7 z1
         have z2 := cell_below b9 (p := ⟨w4.heap.size, 0, none⟩) m7 z2
         have z3 := cell_below b9 (p := ⟨w4.heap.size, 1, none⟩) m7 z3))
  have b9 := (show Below w7.heap.size w7 w8 from ⟨b8.os, b8.tape, b8.output, b8.size, b8.block⟩).trans (b9.mono b8.size)
  clear r0_
  have sb9 := b9.size
  have k := k.trans (b9.mono k.size)
  have sy0 := cell_below b9 (p := ⟨w3.heap.size, 0, none⟩) sl sy0
  have sy1 := cell_below b9 (p := ⟨w3.heap.size, 1, none⟩) sl sy1
  have xy_dg0 := cell_below b9 (p := ⟨w4.heap.size, 0, none⟩) xl_dg xy_dg0
  have xy_dg1 := cell_below b9 (p := ⟨w4.heap.size, 1, none⟩) xl_dg xy_dg1
  have gy0 := cell_below b9 (p := ⟨w6.heap.size, 0, none⟩) gl gy0
  have gy1 := cell_below b9 (p := ⟨w6.heap.size, 1, none⟩) gl gy1
  have gl := Nat.lt_of_lt_of_le gl sb9
  have sl := Nat.lt_of_lt_of_le sl sb9
  have xl_dg := Nat.lt_of_lt_of_le xl_dg sb9
  have so0 := Mem.own_below so0 b9
  have xo_dg0 := Mem.own_below xo_dg0 b9
  have xo_l0 := Mem.own_below xo_l0 b9
  have go0 := Mem.own_below go0 b9
  obtain ⟨B, x0, x1, lx⟩ := BX.out _ k
  have elo_l_k := k.size
  go_wp2_with fail
  refine (toIntS_M A_l0 n_l0 c_l0 l _ (Mem.rd_on h_l0 B) i_l).mono ?_
  rintro e w10 ⟨eA_l0, en_l0, ec_l0, ef_l0, rfl, eo_l0, end_l, elo_l, b10⟩
  have sb10 := b10.size
  have k := k.trans (b10.mono k.size)
  have sy0 := cell_below b10 (p := ⟨w3.heap.size, 0, none⟩) sl sy0
  have sy1 := cell_below b10 (p := ⟨w3.heap.size, 1, none⟩) sl sy1
  have xy_dg0 := cell_below b10 (p := ⟨w4.heap.size, 0, none⟩) xl_dg xy_dg0
  have xy_dg1 := cell_below b10 (p := ⟨w4.heap.size, 1, none⟩) xl_dg xy_dg1
  have gy0 := cell_below b10 (p := ⟨w6.heap.size, 0, none⟩) gl gy0
  have gy1 := cell_below b10 (p := ⟨w6.heap.size, 1, none⟩) gl gy1
  have gl := Nat.lt_of_lt_of_le gl sb10
  have sl := Nat.lt_of_lt_of_le sl sb10
  have xl_dg := Nat.lt_of_lt_of_le xl_dg sb10
  have so0 := Mem.own_below so0 b10
  have xo_dg0 := Mem.own_below xo_dg0 b10
  have xo_l0 := Mem.own_below xo_l0 b10
  have go0 := Mem.own_below go0 b10
  obtain ⟨B, x0, x1, lx⟩ := BX.out _ k
  have elo_l_hi := Mem.own_lt eo_l0
  go_wp2_with fail
  refine (eqIntS_M xA_l0 eA_l0 xn_l0 xc_l0 en_l0 ec_l0 l _ (Mem.own_rd xo_l0) (Mem.own_rd eo_l0)).mono ?_
  rintro e w11 ⟨rfl, b11⟩
  have sb11 := b11.size
  have k := k.trans (b11.mono k.size)
  have sy0 := cell_below b11 (p := ⟨w3.heap.size, 0, none⟩) sl sy0
  have sy1 := cell_below b11 (p := ⟨w3.heap.size, 1, none⟩) sl sy1
  have xy_dg0 := cell_below b11 (p := ⟨w4.heap.size, 0, none⟩) xl_dg xy_dg0
  have xy_dg1 := cell_below b11 (p := ⟨w4.heap.size, 1, none⟩) xl_dg xy_dg1
  have gy0 := cell_below b11 (p := ⟨w6.heap.size, 0, none⟩) gl gy0
  have gy1 := cell_below b11 (p := ⟨w6.heap.size, 1, none⟩) gl gy1
  have gl := Nat.lt_of_lt_of_le gl sb11
  have sl := Nat.lt_of_lt_of_le sl sb11
  have xl_dg := Nat.lt_of_lt_of_le xl_dg sb11
  have so0 := Mem.own_below so0 b11
  have xo_dg0 := Mem.own_below xo_dg0 b11
  have xo_l0 := Mem.own_below xo_l0 b11
  have go0 := Mem.own_below go0 b11
  have eo_l0 := Mem.own_below eo_l0 b11
  obtain ⟨B, x0, x1, lx⟩ := BX.out _ k
  go_wp2_with fail
  refine (markDiagram_M dg xA_dg0 xn_dg0 xc_dg0 xf_dg0 (1) _ xo_dg0 (by omega) (by omega) sz_dg).mono ?_
  rintro e w12 ⟨rfl, b12⟩
  have sb12 := b12.size
  have k := k.trans (b12.below (by have := k.size; omega) fun b hb => by have := xlo_dg b hb; have := xlo_dg_k; omega)
  have sy0 := (World.cell?_of_block (b12.block w3.heap.size sl (fun hc => by have := xlo_dg _ hc; have := xlo_dg_hi _ hc; omega))).trans sy0
  have sy1 := (World.cell?_of_block (b12.block w3.heap.size sl (fun hc => by have := xlo_dg _ hc; have := xlo_dg_hi _ hc; omega))).trans sy1
  have gy0 := (World.cell?_of_block (b12.block w6.heap.size gl (fun hc => by have := xlo_dg _ hc; have := xlo_dg_hi _ hc; omega))).trans gy0
  have gy1 := (World.cell?_of_block (b12.block w6.heap.size gl (fun hc => by have := xlo_dg _ hc; have := xlo_dg_hi _ hc; omega))).trans gy1
  have gl := Nat.lt_of_lt_of_le gl sb12
  have sl := Nat.lt_of_lt_of_le sl sb12
  have so0 := Mem.own_only so0 b12 fun b hb hc => by have := slo b hb; have := slo_hi b hb; have := xlo_dg b hc; have := xlo_dg_hi b hc; omega
  have xo_l0 := Mem.own_only xo_l0 b12 fun b hb hc => by have := xlo_l b hb; have := xlo_l_hi b hb; have := xlo_dg b hc; have := xlo_dg_hi b hc; omega
  have go0 := Mem.own_only go0 b12 fun b hb hc => by have := glo b hb; have := glo_hi b hb; have := xlo_dg b hc; have := xlo_dg_hi b hc; omega
  obtain ⟨B, x0, x1, lx⟩ := BX.out _ k
  rw [← HM_dg.out]
  go_wp2_with fail
  refine (markIntS_M xA_l0 xn_l0 xc_l0 l xf_l0 (1 + (mk_dg : Int)) _ xo_l0 (by omega) (by omega) sz_l).mono ?_
  rintro e w13 ⟨rfl, b13⟩
  have sb13 := b13.size
  have k := k.trans (b13.below (by have := k.size; omega) fun b hb => by have := xlo_l b hb; have := xlo_l_k; omega)
  have sy0 := (World.cell?_of_block (b13.block w3.heap.size sl (fun hc => by have := xlo_l _ hc; have := xlo_l_hi _ hc; omega))).trans sy0
  have sy1 := (World.cell?_of_block (b13.block w3.heap.size sl (fun hc => by have := xlo_l _ hc; have := xlo_l_hi _ hc; omega))).trans sy1
  have gy0 := (World.cell?_of_block (b13.block w6.heap.size gl (fun hc => by have := xlo_l _ hc; have := xlo_l_hi _ hc; omega))).trans gy0
  have gy1 := (World.cell?_of_block (b13.block w6.heap.size gl (fun hc => by have := xlo_l _ hc; have := xlo_l_hi _ hc; omega))).trans gy1
  have gl := Nat.lt_of_lt_of_le gl sb13
  have sl := Nat.lt_of_lt_of_le sl sb13
  have so0 := Mem.own_only so0 b13 fun b hb hc => by have := slo b hb; have := slo_hi b hb; have := xlo_l b hc; have := xlo_l_hi b hc; omega
  have go0 := Mem.own_only go0 b13 fun b hb hc => by have := glo b hb; have := glo_hi b hb; have := xlo_l b hc; have := xlo_l_hi b hc; omega
  obtain ⟨B, x0, x1, lx⟩ := BX.out _ k
  rw [← HM_l.out]
  go_wp2_with fail
  refine (eqDiagram_same F0 gA0 gn0 gc0 sA0 sn0 sc0 _ (Mem.own_rd go0) (Mem.own_rd so0) bS.out).mono ?_
  rintro e w14 ⟨rfl, b14⟩
  have sb14 := b14.size
  have k := k.trans (b14.mono k.size)
  have sy0 := cell_below b14 (p := ⟨w3.heap.size, 0, none⟩) sl sy0
  have sy1 := cell_below b14 (p := ⟨w3.heap.size, 1, none⟩) sl sy1
  have gy0 := cell_below b14 (p := ⟨w6.heap.size, 0, none⟩) gl gy0
  have gy1 := cell_below b14 (p := ⟨w6.heap.size, 1, none⟩) gl gy1
  have gl := Nat.lt_of_lt_of_le gl sb14
  have sl := Nat.lt_of_lt_of_le sl sb14
  have so0 := Mem.own_below so0 b14
  have go0 := Mem.own_below go0 b14
  obtain ⟨B, x0, x1, lx⟩ := BX.out _ k
  go_wp2_with fail
  refine (markDiagram_W F0 gA0 gn0 gc0 gf0 (1) _ go0 (by omega) (by omega) bS.out).mono ?_
  rintro e w15 ⟨rfl, go0, b15⟩
  have sb15 := b15.size
  have k := k.trans (b15.below (by have := k.size; omega) fun b hb => by have := glo b hb; have := glo_k; omega)
  have sy0 := (World.cell?_of_block (b15.block w3.heap.size sl (fun hc => by have := glo _ hc; have := glo_hi _ hc; omega))).trans sy0
  have sy1 := (World.cell?_of_block (b15.block w3.heap.size sl (fun hc => by have := glo _ hc; have := glo_hi _ hc; omega))).trans sy1
  have gy0 := (World.cell?_of_block (b15.block w6.heap.size gl (fun hc => by have := glo _ hc; have := glo_hi _ hc; omega))).trans gy0
  have gy1 := (World.cell?_of_block (b15.block w6.heap.size gl (fun hc => by have := glo _ hc; have := glo_hi _ hc; omega))).trans gy1
  have gl := Nat.lt_of_lt_of_le gl sb15
  have sl := Nat.lt_of_lt_of_le sl sb15
  have so0 := Mem.own_only so0 b15 fun b hb hc => by have := slo b hb; have := slo_hi b hb; have := glo b hc; have := glo_hi b hc; omega
  obtain ⟨B, x0, x1, lx⟩ := BX.out _ k
  have nq : (1 + (mkDg F0 : Int) != 1 + (mkDg F0 : Int)) = false := by simp
  go_wp2_with fail
  refine (heldDiagram_W F0 gA0 gn0 gc0 (1) _ (Mem.own_rd go0) (by omega) (by omega) bS.out).mono ?_
  rintro e w16 ⟨rfl, b16⟩
  have sb16 := b16.size
  have k := k.trans (b16.mono k.size)
  have sy0 := cell_below b16 (p := ⟨w3.heap.size, 0, none⟩) sl sy0
  have sy1 := cell_below b16 (p := ⟨w3.heap.size, 1, none⟩) sl sy1
  have gy0 := cell_below b16 (p := ⟨w6.heap.size, 0, none⟩) gl gy0
  have gy1 := cell_below b16 (p := ⟨w6.heap.size, 1, none⟩) gl gy1
  have gl := Nat.lt_of_lt_of_le gl sb16
  have sl := Nat.lt_of_lt_of_le sl sb16
  have so0 := Mem.own_below so0 b16
  have go0 := Mem.own_below go0 b16
  obtain ⟨B, x0, x1, lx⟩ := BX.out _ k
  have qlo_dg_k := k.size
  go_wp2_with fail
  refine (toDiagram_any dg A_dg0 n_dg0 c_dg0 _ (Mem.rd_on h_dg0 B) fits_dg.out).mono ?_
  rintro e w17 ⟨qA_dg0, qn_dg0, qc_dg0, qf_dg0, rfl, qo_dg0, qnd_dg, qlo_dg, b17⟩
  have sb17 := b17.size
  have k := k.trans (b17.mono k.size)
  have sy0 := cell_below b17 (p := ⟨w3.heap.size, 0, none⟩) sl sy0
  have sy1 := cell_below b17 (p := ⟨w3.heap.size, 1, none⟩) sl sy1
  have gy0 := cell_below b17 (p := ⟨w6.heap.size, 0, none⟩) gl gy0
  have gy1 := cell_below b17 (p := ⟨w6.heap.size, 1, none⟩) gl gy1
  have gl := Nat.lt_of_lt_of_le gl sb17
  have sl := Nat.lt_of_lt_of_le sl sb17
  have so0 := Mem.own_below so0 b17
  have go0 := Mem.own_below go0 b17
  obtain ⟨B, x0, x1, lx⟩ := BX.out _ k
  have qlo_dg_hi := Mem.own_lt qo_dg0
  have qlo_l_k := k.size
  go_wp2_with fail
  refine (toIntS_M A_l0 n_l0 c_l0 l _ (Mem.rd_on h_l0 B) i_l).mono ?_
  rintro e w18 ⟨qA_l0, qn_l0, qc_l0, qf_l0, rfl, qo_l0, qnd_l, qlo_l, b18⟩
  have sb18 := b18.size
  have k := k.trans (b18.mono k.size)
  have sy0 := cell_below b18 (p := ⟨w3.heap.size, 0, none⟩) sl sy0
  have sy1 := cell_below b18 (p := ⟨w3.heap.size, 1, none⟩) sl sy1
  have gy0 := cell_below b18 (p := ⟨w6.heap.size, 0, none⟩) gl gy0
  have gy1 := cell_below b18 (p := ⟨w6.heap.size, 1, none⟩) gl gy1
  have gl := Nat.lt_of_lt_of_le gl sb18
  have sl := Nat.lt_of_lt_of_le sl sb18
  have so0 := Mem.own_below so0 b18
  have go0 := Mem.own_below go0 b18
  have qo_dg0 := Mem.own_below qo_dg0 b18
  obtain ⟨B, x0, x1, lx⟩ := BX.out _ k
  have qlo_l_hi := Mem.own_lt qo_l0
  have hlo_k := k.size
  go_wp2_with fail
  refine (CI.out qA_dg0 qn_dg0 qc_dg0 qA_l0 qn_l0 qc_l0  _ (Mem.own_rd qo_dg0) (Mem.own_rd qo_l0) (HT.out.on B)).mono ?_
  rintro e w19 ⟨hA0, hn0, hc0, hf0, rfl, ho0, hnd, hlo, b19⟩
  have sb19 := b19.size
  have k := k.trans (b19.mono k.size)
  have sy0 := cell_below b19 (p := ⟨w3.heap.size, 0, none⟩) sl sy0
  have sy1 := cell_below b19 (p := ⟨w3.heap.size, 1, none⟩) sl sy1
  have gy0 := cell_below b19 (p := ⟨w6.heap.size, 0, none⟩) gl gy0
  have gy1 := cell_below b19 (p := ⟨w6.heap.size, 1, none⟩) gl gy1
  have gl := Nat.lt_of_lt_of_le gl sb19
  have sl := Nat.lt_of_lt_of_le sl sb19
  have so0 := Mem.own_below so0 b19
  have go0 := Mem.own_below go0 b19
  have qo_dg0 := Mem.own_below qo_dg0 b19
  have qo_l0 := Mem.own_below qo_l0 b19
  obtain ⟨B, x0, x1, lx⟩ := BX.out _ k
  have hlo_hi := Mem.own_lt ho0
  go_wp2_with fail
  refine (eqDiagram_same F0 hA0 hn0 hc0 sA0 sn0 sc0 _ (Mem.rd_on_alloc (Mem.own_rd ho0) _) (Mem.rd_on_alloc (Mem.own_rd so0) _) bS.out).mono ?_
  rintro e w20 ⟨rfl, b20⟩
  obtain ⟨_, hy0, hy1, hl⟩ := slReordered_box 35 w20 b20
  have zb20 := b20.size; rw [World.size_alloc] at zb20
  have b20 := below_call b20
  have sb20 := b20.size
  have k := k.trans (b20.mono k.size)
  have sy0 := cell_below b20 (p := ⟨w3.heap.size, 0, none⟩) sl sy0
  have sy1 := cell_below b20 (p := ⟨w3.heap.size, 1, none⟩) sl sy1
  have gy0 := cell_below b20 (p := ⟨w6.heap.size, 0, none⟩) gl gy0
  have gy1 := cell_below b20 (p := ⟨w6.heap.size, 1, none⟩) gl gy1
  have gl := Nat.lt_of_lt_of_le gl sb20
  have sl := Nat.lt_of_lt_of_le sl sb20
  have so0 := Mem.own_below so0 b20
  have go0 := Mem.own_below go0 b20
  have ho0 := Mem.own_below ho0 b20
  obtain ⟨B, x0, x1, lx⟩ := BX.out _ k
  go_wp2_with fail
  refine (heldDiagram_W F0 gA0 gn0 gc0 (1) _ (Mem.own_rd go0) (by omega) (by omega) bS.out).mono ?_
  rintro e w21 ⟨rfl, b21⟩
  have sb21 := b21.size
  have k := k.trans (b21.mono k.size)
  have sy0 := cell_below b21 (p := ⟨w3.heap.size, 0, none⟩) sl sy0
  have sy1 := cell_below b21 (p := ⟨w3.heap.size, 1, none⟩) sl sy1
  have gy0 := cell_below b21 (p := ⟨w6.heap.size, 0, none⟩) gl gy0
  have gy1 := cell_below b21 (p := ⟨w6.heap.size, 1, none⟩) gl gy1
  have hy0 := cell_below b21 (p := ⟨w19.heap.size, 0, none⟩) hl hy0
  have hy1 := cell_below b21 (p := ⟨w19.heap.size, 1, none⟩) hl hy1
  have gl := Nat.lt_of_lt_of_le gl sb21
  have hl := Nat.lt_of_lt_of_le hl sb21
  have sl := Nat.lt_of_lt_of_le sl sb21
  have so0 := Mem.own_below so0 b21
  have go0 := Mem.own_below go0 b21
  have ho0 := Mem.own_below ho0 b21
  obtain ⟨B, x0, x1, lx⟩ := BX.out _ k
  go_wp2
  go_ret
  exact ⟨rfl, B⟩

set_option maxRecDepth 100000 in
theorem slReordered_lifted (os : Os) (started : os.Started) (H : Type) (enc : TypeId × Value → H) :
    ReturnsInHanded {} Tryd.checked os 5 .any (fun w args => (Rows.fnExactReorderedSpec.pre enc Tryd.prog Tryd.f5 [] false w args ∧ laidMetH Tryd.prog laid1 w) ∧ sizedMet enc Tryd.prog Tryd.f5 (OpenSpec.ofChange Rows.fnExactReorderedSpec) false w args) (Rows.fnExactReorderedSpec.post enc Tryd.prog Tryd.f5 false true false false) := by
  refine returnsInHanded_of_change_and (C := Tryd.checked) (X := fun w _ => laidMetH Tryd.prog laid1 w) (fun _ _ _ hh h => h.of_heap hh) door_own started (by kernel_rfl) Tryd.func5
    (ChangeSpec.witness_shaped (enc := enc) (C := Tryd.checked) (os := os) (X := fun w _ => laidMetH Tryd.prog laid1 w) false (World.doorLaid Tryd.prog 14 os) #[.agg #[.int .i64 0, .slice none 0 0], .int .i64 0, .slice none 0 0] 8 rfl (World.shaped_of_RefB (by kernel_rfl) (by kernel_rfl)) (by kernel_rfl) (by kernel_rfl) (by kernel_rfl) (door_met os _)) ?_
  intro W base args ds gs before hval0 hW _ _ hL _
  have hval : ∀ (j : Nat) t v, Tryd.f5.params[j]? = some t → args[j]? = some v → Value.okWide Tryd.prog W .any base t v := hval0
  have hW' := hW
  have hW2 := hW
  obtain ⟨p, q, hA0, hV, rfl, hfz, hnd⟩ := hW2
  have hA : DataW.TrodAll enc Tryd.prog W 0 (fun _ => true) true Tryd.f5.params.toList args.toList ds p := hA0
  rw [Tryd.params5] at hA hval
  obtain ⟨u0, u1, u2, d0, d1, d2, p0, p1, p2, rfl, rfl, rfl, h0, h1, h2⟩ := trodAll_three hA
  obtain ⟨dv, rfl⟩ := vars_one hV
  have k0 := h0
  obtain ⟨A_dg0, n_dg0, c_dg0, dg, rfl, ra0, wf0⟩ := open_diagram (hval 0 44 u0 rfl rfl) h0
  obtain ⟨nn, rfl, rfl, rfl, wf1⟩ := open_int Tryd.underlying3 (hval 1 3 u1 rfl rfl) h1
  have k2 := h2
  obtain ⟨A_l0, n_l0, c_l0, l, rfl, mm2, rr2⟩ := open_intS (hval 2 45 u2 rfl rfl) h2
  clear hA0 hval0
  simp only [List.append_nil] at hW'
  have hlt : ∀ x ∈ p0 ++ p2, x.block < W.heap.size := fun x hx => hW'.lt x (by simp at hx; rcases hx with z | z <;> simp [z])
  refine (slReordered_any dg nn l A_dg0 n_dg0 c_dg0 A_l0 n_l0 c_l0 W ra0 (rd_ints.2 ⟨mm2, rr2⟩) (door_at hL)).mono fun e W' ⟨he, hb⟩ => ?_
  subst he
  exact ⟨_, rfl, post_below (pa := p0 ++ ([] ++ p2)) (pv := q) hW' (fun _ _ _ => trodAll_mk1 (shut_bool Tryd.underlying4 _))
    (fun sp hsp => trodAll_mk3 (WideElems.Trod_stays Tryd.laidOut (by kernel_rfl) (of_decide_eq_true (by kernel_rfl)) k0 (fun x hx => hb.same (hlt x (by simp [hx]))) (fun x hx => hsp x (by simp [hx]))) (shut_int Tryd.underlying3 wf1) (WideElems.Trod_stays Tryd.laidOut (by kernel_rfl) (of_decide_eq_true (by kernel_rfl)) k2 (fun x hx => hb.same (hlt x (by simp [hx]))) (fun x hx => hsp x (by simp [hx])))) (fun sp hsp => vars_stay hV hb (fun x hx => hW'.lt x (by simp [hx])) (fun x hx => hsp x (by simp [hx]))) (by simp)
    hb (ok_one (by kernel_rfl) rfl (okWide_bool_mk Tryd.underlying4 _))⟩

theorem slReordered_holds : Rows.FnExactReorderedSaid :=
  OpenClaim.holds_of_wide 5 Tryd.f5 rfl rfl rfl rfl rfl rfl rfl ⟨rfl, rfl, rfl, rfl, rfl⟩ rfl rfl rfl rfl rfl (by kernel_rfl) Tryd.func5 (by kernel_rfl)
    (of_decide_eq_true (by kernel_rfl)) (by unfold Func.isWrapper; first | (rw [if_pos (by decide +kernel)]; kernel_rfl) | (rw [if_neg (by decide +kernel)]; exact ⟨rfl, rfl⟩))
    (fun os started H enc _ => slReordered_lifted os started H enc)
/-- The tied card. -/
theorem slReordered_card : Rows.FnExactReorderedCardSaid :=
  Claim7.holds_tied_plain_at .later [] [.data] true Rows.fnExactReorderedCard.stood.harness false
    slReordered_holds (fun _ h => by cases h) (by kernel_rfl) (fun _ h => by cases h) fnExactReordered_row_tie rfl ⟨rfl, rfl⟩ (by kernel_rfl) rfl
    (fun f fn hf hfn => by
      obtain rfl : f = 5 := Option.some.inj ((show Tryd.prog.funcNamed "loop.example/wholecheck/laws.FnExactReordered" = some 5 by kernel_rfl).symm.trans hf) |>.symm
      obtain rfl : fn = Tryd.f5 := (Option.some.inj (Tryd.func5.symm.trans hfn)).symm
      exact ⟨by kernel_rfl, fun j t ht => by
        rw [Tryd.params5] at ht
        have hm : t ∈ [44, 3, 45] := by have h0 := Array.mem_of_getElem? ht; simp at h0; simp [h0]
        have hall : ([44, 3, 45].all fun u => !Tryd.prog.wantsStandIn u) = true := by kernel_rfl
        exact (show Tryd.prog.wantsStandIn t = false by simpa using List.all_eq_true.1 hall t hm)⟩)
    (by kernel_rfl)
end Go.Proofs.YtnhjcokmajejcaaDoor
