/- For every input the law FnExactSwapOrder returns true: the function answers as its model, and writes into no argument. -/
import Derived.Test.YtnhjcokmajejcaaDoorSwI
import Derived.Test.YtnhjcokmajejcaaDoorDoorC
import Derived.Test.YtnhjcokmajejcaaDoorIl
import Derived.Test.YtnhjcokmajejcaaDoorEqSy
import Derived.Test.YtnhjcokmajejcaaDoorOpenSy
import Derived.Test.YtnhjcokmajejcaaDoorOpenSy
import Derived.Deep.RegionHeld3
namespace Go.Proofs.YtnhjcokmajejcaaDoor
open Go.ChangeShapes Go.WideShapes Go.ChangeAt Go.RowKit

theorem slSwapOrder_box {w : World} {v1 v2 : Value} (t : TypeId) : ∀ W, Below (w.alloc (.cells #[v1, v2] t)).heap.size (w.alloc (.cells #[v1, v2] t)) W →
    Below w.heap.size w W ∧ W.cell? ⟨w.heap.size, 0, none⟩ = some v1 ∧ W.cell? ⟨w.heap.size, 1, none⟩ = some v2 ∧ w.heap.size < W.heap.size :=
  fun W hW => ⟨below_call hW, ((ci_blk w _ _).below hW (by simp)).cell 0, ((ci_blk w _ _).below hW (by simp)).cell 1, by have := hW.size; simp at this; omega⟩

set_option maxRecDepth 100000 in
set_option maxHeartbeats 8000000 in
theorem slSwapOrder_any (dg : Dg) (nn : Int) (vr : Int) (A_dg0 : Option Addr) (n_dg0 c_dg0 : Nat) (w : World) (h_dg0 : Mem.rd w w.heap.size [.slice A_dg0 n_dg0 c_dg0] dg.forks) (hT : DoorAt w) :
    Calls Tryd.prog 6 #[.agg #[.int .i64 dg.vars, .slice A_dg0 n_dg0 c_dg0], .int .i64 nn, .int .i64 vr] w (GivesBool w true) := by
  have m_dg0 := rd_max h_dg0
  unfold maxLen at m_dg0
  by_cases big_dg : 1048576 < (szDg dg : Int)
  · go_enter Tryd.func6, Tryd.ntmps6
    go_wp2_with fail
    refine (szDiagram_any dg A_dg0 n_dg0 c_dg0 (1048576) _ (Mem.rd_on_alloc h_dg0 _) (by omega) (by omega)).mono ?_
    rintro e v0 ⟨rfl, bz0⟩
    have k := bz0
    rw [rest_no big_dg]
    go_wp2
    go_ret
    exact ⟨rfl, by first | exact Below.refl _ _ | exact below_alloc _ _ | exact below_call k | exact below_call (below_call k) | exact k⟩
  have sz_dg : dg.forks.length ≤ 1048576 := by have : szDg dg = dg.forks.length := rfl; omega
  have fits_dg := Lib.hid sz_dg
  have CS := Lib.hid (fun A_dg0' n_dg0' c_dg0' w h_dg0' => swap_specR dg nn vr A_dg0' n_dg0' c_dg0' w h_dg0')
  have CI := Lib.hid (fun A_dg0' n_dg0' c_dg0' w h_dg0' (hT : DoorAt w) => swap_implR dg nn vr A_dg0' n_dg0' c_dg0' w h_dg0' hT)
  have HT := Lib.hid hT
  clear hT
  have bS := swap1_len dg nn vr
  generalize swap1 dg nn vr = F0 at CS CI bS
  generalize swap2 dg nn vr = F1 at CS CI
  have nz1 : (F1 != F1) = false := by simp
  have bS := Lib.hid bS
  obtain ⟨mk_dg, HM_dg, hk_dg⟩ : ∃ m : Nat, Hid (m = mkDg dg) ∧ m ≤ 3 * 1048576 := ⟨_, Lib.hid rfl, by unfold mkDg; omega⟩
  have BX := Lib.hid (slSwapOrder_box (w := w) (v1 := .int .i64 dg.vars) (v2 := .slice A_dg0 n_dg0 c_dg0) 44)
  go_enter Tryd.func6, Tryd.ntmps6
  go_wp2_with fail
  refine (szDiagram_any dg A_dg0 n_dg0 c_dg0 (1048576) _ (Mem.rd_on_alloc h_dg0 _) (by omega) (by omega)).mono ?_
  rintro e v0 ⟨rfl, bz0⟩
  have k := bz0
  rw [rest_yes (by omega)]
  skip
  obtain ⟨B, x0, x1, lx⟩ := BX.out _ k
  have plo_dg_k := k.size
  go_wp2_with fail
  refine (toDiagram_any dg A_dg0 n_dg0 c_dg0 _ (Mem.rd_on h_dg0 B) fits_dg.out).mono ?_
  rintro e w1 ⟨pA_dg0, pn_dg0, pc_dg0, pf_dg0, rfl, po_dg0, pnd_dg, plo_dg, b1⟩
  have sb1 := b1.size
  have k := k.trans (b1.mono k.size)
  obtain ⟨B, x0, x1, lx⟩ := BX.out _ k
  have plo_dg_hi := Mem.own_lt po_dg0
  have slo_k := k.size
  go_wp2_with fail
  refine (CS.out pA_dg0 pn_dg0 pc_dg0  _ (Mem.own_rd po_dg0)).mono ?_
  rintro e w2 ⟨sA0, sn0, sc0, sf0, rfl, so0, snd, slo, b2⟩
  have sb2 := b2.size
  have k := k.trans (b2.mono k.size)
  have po_dg0 := Mem.own_below po_dg0 b2
  obtain ⟨B, x0, x1, lx⟩ := BX.out _ k
  have slo_hi := Mem.own_lt so0
  have xlo_dg_k := k.size
  go_wp2_with fail
  refine (toDiagram_any dg A_dg0 n_dg0 c_dg0 _ (Mem.rd_on_alloc (Mem.rd_on h_dg0 B) _) fits_dg.out).mono ?_
  rintro e w3 ⟨xA_dg0, xn_dg0, xc_dg0, xf_dg0, rfl, xo_dg0, xnd_dg, xlo_dg, b3⟩
  obtain ⟨_, sy0, sy1, sl⟩ := slSwapOrder_box 35 w3 b3
  have zb3 := b3.size; rw [World.size_alloc] at zb3
  have b3 := below_call b3
  have sb3 := b3.size
  have k := k.trans (b3.mono k.size)
  have so0 := Mem.own_below so0 b3
  obtain ⟨B, x0, x1, lx⟩ := BX.out _ k
  simp only [World.size_alloc] at xlo_dg
  have xlo_dg_hi := Mem.own_lt xo_dg0
  have glo_k := k.size
  go_wp2_with fail
  refine (CI.out xA_dg0 xn_dg0 xc_dg0  _ (Mem.rd_on_alloc (Mem.own_rd xo_dg0) _) ((HT.out.on B).on_alloc _)).mono ?_
  rintro e w4 ⟨gA0, gn0, gc0, gf0, rfl, go0, gnd, glo, b4⟩
  obtain ⟨_, xy_dg0, xy_dg1, xl_dg⟩ := slSwapOrder_box 35 w4 b4
  have zb4 := b4.size; rw [World.size_alloc] at zb4
  have b4 := below_call b4
  have sb4 := b4.size
  have k := k.trans (b4.mono k.size)
  have sy0 := cell_below b4 (p := ⟨w2.heap.size, 0, none⟩) sl sy0
  have sy1 := cell_below b4 (p := ⟨w2.heap.size, 1, none⟩) sl sy1
  have sl := Nat.lt_of_lt_of_le sl sb4
  have so0 := Mem.own_below so0 b4
  have xo_dg0 := Mem.own_below xo_dg0 b4
  obtain ⟨B, x0, x1, lx⟩ := BX.out _ k
  simp only [World.size_alloc] at glo
  have glo_hi := Mem.own_lt go0
  go_wp2_with fail
  refine (eqDiagram_same F0 gA0 gn0 gc0 sA0 sn0 sc0 _ (Mem.rd_on_alloc (Mem.own_rd go0) _) (Mem.rd_on_alloc (Mem.own_rd so0) _) bS.out).mono ?_
  rintro e w5 ⟨rfl, b5⟩
  obtain ⟨_, gy0, gy1, gl⟩ := slSwapOrder_box 35 w5 b5
  have zb5 := b5.size; rw [World.size_alloc] at zb5
  have b5 := below_call b5
  have sb5 := b5.size
  have k := k.trans (b5.mono k.size)
  have sy0 := cell_below b5 (p := ⟨w2.heap.size, 0, none⟩) sl sy0
  have sy1 := cell_below b5 (p := ⟨w2.heap.size, 1, none⟩) sl sy1
  have xy_dg0 := cell_below b5 (p := ⟨w3.heap.size, 0, none⟩) xl_dg xy_dg0
  have xy_dg1 := cell_below b5 (p := ⟨w3.heap.size, 1, none⟩) xl_dg xy_dg1
  have sl := Nat.lt_of_lt_of_le sl sb5
  have xl_dg := Nat.lt_of_lt_of_le xl_dg sb5
  have so0 := Mem.own_below so0 b5
  have xo_dg0 := Mem.own_below xo_dg0 b5
  have go0 := Mem.own_below go0 b5
  obtain ⟨B, x0, x1, lx⟩ := BX.out _ k
  have r0_ := Mem.own_rd xo_dg0
  go_wp2
  go_region_held3 (fun w' => w'.cell? ⟨w.heap.size, 0, none⟩ = some (.int .i64 dg.vars) ∧ w'.cell? ⟨w.heap.size, 1, none⟩ = some (.slice A_dg0 n_dg0 c_dg0) ∧ w'.cell? ⟨w3.heap.size, 0, none⟩ = some (.int .i64 dg.vars) ∧ w'.cell? ⟨w3.heap.size, 1, none⟩ = some (.slice xA_dg0 xn_dg0 xc_dg0)) (go_keep)
    (first
      | (go_at_call 20; refine (toDiagram_any dg A_dg0 n_dg0 c_dg0 w5.drew (Mem.rd_drew (Mem.rd_on h_dg0 B)) fits_dg.out).mono ?_; rintro e w6 ⟨R1, g1, j1, q5, rfl, u5, _, _, b6⟩
         have z0 := cell_below b6 (p := ⟨w.heap.size, 0, none⟩) lx x0
         have z1 := cell_below b6 (p := ⟨w.heap.size, 1, none⟩) lx x1
         have z2 := cell_below b6 (p := ⟨w3.heap.size, 0, none⟩) xl_dg xy_dg0
         have z3 := cell_below b6 (p := ⟨w3.heap.size, 1, none⟩) xl_dg xy_dg1
         have l7 := Nat.lt_of_lt_of_le lx b6.size
         have m7 := Nat.lt_of_lt_of_le xl_dg b6.size)
      | (go_at_call 14; refine (eqDiagram_same dg xA_dg0 xn_dg0 xc_dg0 R1 g1 j1 _ (Mem.rd_on (Mem.rd_drew r0_) b6) (Mem.own_rd u5) fits_dg.out).mono ?_; rintro e w7 ⟨rfl, b7⟩
         have z0 := cell_below b7 (p := ⟨w.heap.size, 0, none⟩) l7 z0
         have z1 := cell_below b7 (p := ⟨w.heap.size, 1, none⟩) l7 z1
         have z2 := cell_below b7 (p := ⟨w3.heap.size, 0, none⟩) m7 z2
         have z3 := cell_below b7 (p := ⟨w3.heap.size, 1, none⟩) m7 z3))
  have b7 := (show Below w5.heap.size w5 w6 from ⟨b6.os, b6.tape, b6.output, b6.size, b6.block⟩).trans (b7.mono b6.size)
  clear r0_
  have sb7 := b7.size
  have k := k.trans (b7.mono k.size)
  have sy0 := cell_below b7 (p := ⟨w2.heap.size, 0, none⟩) sl sy0
  have sy1 := cell_below b7 (p := ⟨w2.heap.size, 1, none⟩) sl sy1
  have xy_dg0 := cell_below b7 (p := ⟨w3.heap.size, 0, none⟩) xl_dg xy_dg0
  have xy_dg1 := cell_below b7 (p := ⟨w3.heap.size, 1, none⟩) xl_dg xy_dg1
  have gy0 := cell_below b7 (p := ⟨w4.heap.size, 0, none⟩) gl gy0
  have gy1 := cell_below b7 (p := ⟨w4.heap.size, 1, none⟩) gl gy1
  have gl := Nat.lt_of_lt_of_le gl sb7
  have sl := Nat.lt_of_lt_of_le sl sb7
  have xl_dg := Nat.lt_of_lt_of_le xl_dg sb7
  have so0 := Mem.own_below so0 b7
  have xo_dg0 := Mem.own_below xo_dg0 b7
  have go0 := Mem.own_below go0 b7
  obtain ⟨B, x0, x1, lx⟩ := BX.out _ k
  go_wp2_with fail
  refine (markDiagram_M dg xA_dg0 xn_dg0 xc_dg0 xf_dg0 (1) _ xo_dg0 (by omega) (by omega) sz_dg).mono ?_
  rintro e w8 ⟨rfl, b8⟩
  have sb8 := b8.size
  have k := k.trans (b8.below (by have := k.size; omega) fun b hb => by have := xlo_dg b hb; have := xlo_dg_k; omega)
  have sy0 := (World.cell?_of_block (b8.block w2.heap.size sl (fun hc => by have := xlo_dg _ hc; have := xlo_dg_hi _ hc; omega))).trans sy0
  have sy1 := (World.cell?_of_block (b8.block w2.heap.size sl (fun hc => by have := xlo_dg _ hc; have := xlo_dg_hi _ hc; omega))).trans sy1
  have gy0 := (World.cell?_of_block (b8.block w4.heap.size gl (fun hc => by have := xlo_dg _ hc; have := xlo_dg_hi _ hc; omega))).trans gy0
  have gy1 := (World.cell?_of_block (b8.block w4.heap.size gl (fun hc => by have := xlo_dg _ hc; have := xlo_dg_hi _ hc; omega))).trans gy1
  have gl := Nat.lt_of_lt_of_le gl sb8
  have sl := Nat.lt_of_lt_of_le sl sb8
  have so0 := Mem.own_only so0 b8 fun b hb hc => by have := slo b hb; have := slo_hi b hb; have := xlo_dg b hc; have := xlo_dg_hi b hc; omega
  have go0 := Mem.own_only go0 b8 fun b hb hc => by have := glo b hb; have := glo_hi b hb; have := xlo_dg b hc; have := xlo_dg_hi b hc; omega
  obtain ⟨B, x0, x1, lx⟩ := BX.out _ k
  rw [← HM_dg.out]
  go_wp2_with fail
  refine (eqDiagram_same F0 gA0 gn0 gc0 sA0 sn0 sc0 _ (Mem.own_rd go0) (Mem.own_rd so0) bS.out).mono ?_
  rintro e w9 ⟨rfl, b9⟩
  have sb9 := b9.size
  have k := k.trans (b9.mono k.size)
  have sy0 := cell_below b9 (p := ⟨w2.heap.size, 0, none⟩) sl sy0
  have sy1 := cell_below b9 (p := ⟨w2.heap.size, 1, none⟩) sl sy1
  have gy0 := cell_below b9 (p := ⟨w4.heap.size, 0, none⟩) gl gy0
  have gy1 := cell_below b9 (p := ⟨w4.heap.size, 1, none⟩) gl gy1
  have gl := Nat.lt_of_lt_of_le gl sb9
  have sl := Nat.lt_of_lt_of_le sl sb9
  have so0 := Mem.own_below so0 b9
  have go0 := Mem.own_below go0 b9
  obtain ⟨B, x0, x1, lx⟩ := BX.out _ k
  go_wp2_with fail
  refine (markDiagram_W F0 gA0 gn0 gc0 gf0 (1) _ go0 (by omega) (by omega) bS.out).mono ?_
  rintro e w10 ⟨rfl, go0, b10⟩
  have sb10 := b10.size
  have k := k.trans (b10.below (by have := k.size; omega) fun b hb => by have := glo b hb; have := glo_k; omega)
  have sy0 := (World.cell?_of_block (b10.block w2.heap.size sl (fun hc => by have := glo _ hc; have := glo_hi _ hc; omega))).trans sy0
  have sy1 := (World.cell?_of_block (b10.block w2.heap.size sl (fun hc => by have := glo _ hc; have := glo_hi _ hc; omega))).trans sy1
  have gy0 := (World.cell?_of_block (b10.block w4.heap.size gl (fun hc => by have := glo _ hc; have := glo_hi _ hc; omega))).trans gy0
  have gy1 := (World.cell?_of_block (b10.block w4.heap.size gl (fun hc => by have := glo _ hc; have := glo_hi _ hc; omega))).trans gy1
  have gl := Nat.lt_of_lt_of_le gl sb10
  have sl := Nat.lt_of_lt_of_le sl sb10
  have so0 := Mem.own_only so0 b10 fun b hb hc => by have := slo b hb; have := slo_hi b hb; have := glo b hc; have := glo_hi b hc; omega
  obtain ⟨B, x0, x1, lx⟩ := BX.out _ k
  have nq : (1 + (mkDg F0 : Int) != 1 + (mkDg F0 : Int)) = false := by simp
  go_wp2_with fail
  refine (heldDiagram_W F0 gA0 gn0 gc0 (1) _ (Mem.own_rd go0) (by omega) (by omega) bS.out).mono ?_
  rintro e w11 ⟨rfl, b11⟩
  have sb11 := b11.size
  have k := k.trans (b11.mono k.size)
  have sy0 := cell_below b11 (p := ⟨w2.heap.size, 0, none⟩) sl sy0
  have sy1 := cell_below b11 (p := ⟨w2.heap.size, 1, none⟩) sl sy1
  have gy0 := cell_below b11 (p := ⟨w4.heap.size, 0, none⟩) gl gy0
  have gy1 := cell_below b11 (p := ⟨w4.heap.size, 1, none⟩) gl gy1
  have gl := Nat.lt_of_lt_of_le gl sb11
  have sl := Nat.lt_of_lt_of_le sl sb11
  have so0 := Mem.own_below so0 b11
  have go0 := Mem.own_below go0 b11
  obtain ⟨B, x0, x1, lx⟩ := BX.out _ k
  have qlo_dg_k := k.size
  go_wp2_with fail
  refine (toDiagram_any dg A_dg0 n_dg0 c_dg0 _ (Mem.rd_on h_dg0 B) fits_dg.out).mono ?_
  rintro e w12 ⟨qA_dg0, qn_dg0, qc_dg0, qf_dg0, rfl, qo_dg0, qnd_dg, qlo_dg, b12⟩
  have sb12 := b12.size
  have k := k.trans (b12.mono k.size)
  have sy0 := cell_below b12 (p := ⟨w2.heap.size, 0, none⟩) sl sy0
  have sy1 := cell_below b12 (p := ⟨w2.heap.size, 1, none⟩) sl sy1
  have gy0 := cell_below b12 (p := ⟨w4.heap.size, 0, none⟩) gl gy0
  have gy1 := cell_below b12 (p := ⟨w4.heap.size, 1, none⟩) gl gy1
  have gl := Nat.lt_of_lt_of_le gl sb12
  have sl := Nat.lt_of_lt_of_le sl sb12
  have so0 := Mem.own_below so0 b12
  have go0 := Mem.own_below go0 b12
  obtain ⟨B, x0, x1, lx⟩ := BX.out _ k
  have qlo_dg_hi := Mem.own_lt qo_dg0
  have hlo_k := k.size
  go_wp2_with fail
  refine (CI.out qA_dg0 qn_dg0 qc_dg0  _ (Mem.own_rd qo_dg0) (HT.out.on B)).mono ?_
  rintro e w13 ⟨hA0, hn0, hc0, hf0, rfl, ho0, hnd, hlo, b13⟩
  have sb13 := b13.size
  have k := k.trans (b13.mono k.size)
  have sy0 := cell_below b13 (p := ⟨w2.heap.size, 0, none⟩) sl sy0
  have sy1 := cell_below b13 (p := ⟨w2.heap.size, 1, none⟩) sl sy1
  have gy0 := cell_below b13 (p := ⟨w4.heap.size, 0, none⟩) gl gy0
  have gy1 := cell_below b13 (p := ⟨w4.heap.size, 1, none⟩) gl gy1
  have gl := Nat.lt_of_lt_of_le gl sb13
  have sl := Nat.lt_of_lt_of_le sl sb13
  have so0 := Mem.own_below so0 b13
  have go0 := Mem.own_below go0 b13
  have qo_dg0 := Mem.own_below qo_dg0 b13
  obtain ⟨B, x0, x1, lx⟩ := BX.out _ k
  have hlo_hi := Mem.own_lt ho0
  go_wp2_with fail
  refine (eqDiagram_same F0 hA0 hn0 hc0 sA0 sn0 sc0 _ (Mem.rd_on_alloc (Mem.own_rd ho0) _) (Mem.rd_on_alloc (Mem.own_rd so0) _) bS.out).mono ?_
  rintro e w14 ⟨rfl, b14⟩
  obtain ⟨_, hy0, hy1, hl⟩ := slSwapOrder_box 35 w14 b14
  have zb14 := b14.size; rw [World.size_alloc] at zb14
  have b14 := below_call b14
  have sb14 := b14.size
  have k := k.trans (b14.mono k.size)
  have sy0 := cell_below b14 (p := ⟨w2.heap.size, 0, none⟩) sl sy0
  have sy1 := cell_below b14 (p := ⟨w2.heap.size, 1, none⟩) sl sy1
  have gy0 := cell_below b14 (p := ⟨w4.heap.size, 0, none⟩) gl gy0
  have gy1 := cell_below b14 (p := ⟨w4.heap.size, 1, none⟩) gl gy1
  have gl := Nat.lt_of_lt_of_le gl sb14
  have sl := Nat.lt_of_lt_of_le sl sb14
  have so0 := Mem.own_below so0 b14
  have go0 := Mem.own_below go0 b14
  have ho0 := Mem.own_below ho0 b14
  obtain ⟨B, x0, x1, lx⟩ := BX.out _ k
  go_wp2_with fail
  refine (heldDiagram_W F0 gA0 gn0 gc0 (1) _ (Mem.own_rd go0) (by omega) (by omega) bS.out).mono ?_
  rintro e w15 ⟨rfl, b15⟩
  have sb15 := b15.size
  have k := k.trans (b15.mono k.size)
  have sy0 := cell_below b15 (p := ⟨w2.heap.size, 0, none⟩) sl sy0
  have sy1 := cell_below b15 (p := ⟨w2.heap.size, 1, none⟩) sl sy1
  have gy0 := cell_below b15 (p := ⟨w4.heap.size, 0, none⟩) gl gy0
  have gy1 := cell_below b15 (p := ⟨w4.heap.size, 1, none⟩) gl gy1
  have hy0 := cell_below b15 (p := ⟨w13.heap.size, 0, none⟩) hl hy0
  have hy1 := cell_below b15 (p := ⟨w13.heap.size, 1, none⟩) hl hy1
  have gl := Nat.lt_of_lt_of_le gl sb15
  have hl := Nat.lt_of_lt_of_le hl sb15
  have sl := Nat.lt_of_lt_of_le sl sb15
  have so0 := Mem.own_below so0 b15
  have go0 := Mem.own_below go0 b15
  have ho0 := Mem.own_below ho0 b15
  obtain ⟨B, x0, x1, lx⟩ := BX.out _ k
  go_wp2
  go_ret
  exact ⟨rfl, B⟩

set_option maxRecDepth 100000 in
theorem slSwapOrder_lifted (os : Os) (started : os.Started) (H : Type) (enc : TypeId × Value → H) :
    ReturnsInHanded {} Tryd.checked os 6 .any (fun w args => (Rows.fnExactSwapOrderSpec.pre enc Tryd.prog Tryd.f6 [] false w args ∧ laidMetH Tryd.prog laid1 w) ∧ sizedMet enc Tryd.prog Tryd.f6 (OpenSpec.ofChange Rows.fnExactSwapOrderSpec) false w args) (Rows.fnExactSwapOrderSpec.post enc Tryd.prog Tryd.f6 false true false false) := by
  refine returnsInHanded_of_change_and (C := Tryd.checked) (X := fun w _ => laidMetH Tryd.prog laid1 w) (fun _ _ _ hh h => h.of_heap hh) door_own started (by kernel_rfl) Tryd.func6
    (ChangeSpec.witness_shaped (enc := enc) (C := Tryd.checked) (os := os) (X := fun w _ => laidMetH Tryd.prog laid1 w) false (World.doorLaid Tryd.prog 14 os) #[.agg #[.int .i64 0, .slice none 0 0], .int .i64 0, .int .i64 0] 8 rfl (World.shaped_of_RefB (by kernel_rfl) (by kernel_rfl)) (by kernel_rfl) (by kernel_rfl) (by kernel_rfl) (door_met os _)) ?_
  intro W base args ds gs before hval0 hW _ _ hL _
  have hval : ∀ (j : Nat) t v, Tryd.f6.params[j]? = some t → args[j]? = some v → Value.okWide Tryd.prog W .any base t v := hval0
  have hW' := hW
  have hW2 := hW
  obtain ⟨p, q, hA0, hV, rfl, hfz, hnd⟩ := hW2
  have hA : DataW.TrodAll enc Tryd.prog W 0 (fun _ => true) true Tryd.f6.params.toList args.toList ds p := hA0
  rw [Tryd.params6] at hA hval
  obtain ⟨u0, u1, u2, d0, d1, d2, p0, p1, p2, rfl, rfl, rfl, h0, h1, h2⟩ := trodAll_three hA
  obtain ⟨dv, rfl⟩ := vars_one hV
  have k0 := h0
  obtain ⟨A_dg0, n_dg0, c_dg0, dg, rfl, ra0, wf0⟩ := open_diagram (hval 0 44 u0 rfl rfl) h0
  obtain ⟨nn, rfl, rfl, rfl, wf1⟩ := open_int Tryd.underlying3 (hval 1 3 u1 rfl rfl) h1
  obtain ⟨vr, rfl, rfl, rfl, wf2⟩ := open_int Tryd.underlying3 (hval 2 3 u2 rfl rfl) h2
  clear hA0 hval0
  simp only [List.append_nil] at hW'
  have hlt : ∀ x ∈ p0, x.block < W.heap.size := fun x hx => hW'.lt x (by simp [hx])
  refine (slSwapOrder_any dg nn vr A_dg0 n_dg0 c_dg0 W ra0 (door_at hL)).mono fun e W' ⟨he, hb⟩ => ?_
  subst he
  exact ⟨_, rfl, post_below (pa := p0 ++ ([] ++ ([]))) (pv := q) hW' (fun _ _ _ => trodAll_mk1 (shut_bool Tryd.underlying4 _))
    (fun sp hsp => trodAll_mk3 (WideElems.Trod_stays Tryd.laidOut (by kernel_rfl) (of_decide_eq_true (by kernel_rfl)) k0 (fun x hx => hb.same (hlt x (by simp [hx]))) (fun x hx => hsp x (by simp [hx]))) (shut_int Tryd.underlying3 wf1) (shut_int Tryd.underlying3 wf2)) (fun sp hsp => vars_stay hV hb (fun x hx => hW'.lt x (by simp [hx])) (fun x hx => hsp x (by simp [hx]))) (by simp)
    hb (ok_one (by kernel_rfl) rfl (okWide_bool_mk Tryd.underlying4 _))⟩

theorem slSwapOrder_holds : Rows.FnExactSwapOrderSaid :=
  OpenClaim.holds_of_wide 6 Tryd.f6 rfl rfl rfl rfl rfl rfl rfl ⟨rfl, rfl, rfl, rfl, rfl⟩ rfl rfl rfl rfl rfl (by kernel_rfl) Tryd.func6 (by kernel_rfl)
    (of_decide_eq_true (by kernel_rfl)) (by unfold Func.isWrapper; first | (rw [if_pos (by decide +kernel)]; kernel_rfl) | (rw [if_neg (by decide +kernel)]; exact ⟨rfl, rfl⟩))
    (fun os started H enc _ => slSwapOrder_lifted os started H enc)
/-- The tied card. -/
theorem slSwapOrder_card : Rows.FnExactSwapOrderCardSaid :=
  Claim7.holds_tied_plain_at .later [] [.data] true Rows.fnExactSwapOrderCard.stood.harness false
    slSwapOrder_holds (fun _ h => by cases h) (by kernel_rfl) (fun _ h => by cases h) fnExactSwapOrder_row_tie rfl ⟨rfl, rfl⟩ (by kernel_rfl) rfl
    (fun f fn hf hfn => by
      obtain rfl : f = 6 := Option.some.inj ((show Tryd.prog.funcNamed "loop.example/wholecheck/laws.FnExactSwapOrder" = some 6 by kernel_rfl).symm.trans hf) |>.symm
      obtain rfl : fn = Tryd.f6 := (Option.some.inj (Tryd.func6.symm.trans hfn)).symm
      exact ⟨by kernel_rfl, fun j t ht => by
        rw [Tryd.params6] at ht
        have hm : t ∈ [44, 3] := by have h0 := Array.mem_of_getElem? ht; simp at h0; simp [h0]
        have hall : ([44, 3].all fun u => !Tryd.prog.wantsStandIn u) = true := by kernel_rfl
        exact (show Tryd.prog.wantsStandIn t = false by simpa using List.all_eq_true.1 hall t hm)⟩)
    (by kernel_rfl)
end Go.Proofs.YtnhjcokmajejcaaDoor
