/- For every input the law FnExactClausesOf returns true: the function answers as its model, and writes into no argument. -/
import Derived.Test.YthlkbkomecnbaaaKgI
import Derived.Test.YthlkbkomecnbaaaKgS
import Derived.Test.YthlkbkomecnbaaaIl
import Derived.Test.YthlkbkomecnbaaaEqSy
import Derived.Test.YthlkbkomecnbaaaOpenSy
import Derived.Test.YthlkbkomecnbaaaOpenSy
import Derived.Deep.RegionHeld3
namespace Go.Proofs.Ythlkbkomecnbaaa
open Go.ChangeShapes Go.WideShapes Go.ChangeAt Go.RowKit

theorem slClausesOf_box {w : World} {v1 v2 : Value} (t : TypeId) : ∀ W, Below (w.alloc (.cells #[v1, v2] t)).heap.size (w.alloc (.cells #[v1, v2] t)) W →
    Below w.heap.size w W ∧ W.cell? ⟨w.heap.size, 0, none⟩ = some v1 ∧ W.cell? ⟨w.heap.size, 1, none⟩ = some v2 ∧ w.heap.size < W.heap.size :=
  fun W hW => ⟨below_call hW, ((ci_blk w _ _).below hW (by simp)).cell 0, ((ci_blk w _ _).below hW (by simp)).cell 1, by have := hW.size; simp at this; omega⟩

set_option maxRecDepth 100000 in
set_option maxHeartbeats 8000000 in
theorem slClausesOf_any (ci : Ci) (e : Int) (A_ci0 : Option Addr) (n_ci0 c_ci0 : Nat) (w : World) (h_ci0 : Mem.rd w w.heap.size [.slice A_ci0 n_ci0 c_ci0] ci.gates) :
    Calls Try.prog 7 #[.agg #[.int .i64 ci.ins, .slice A_ci0 n_ci0 c_ci0], .int .i64 e] w (GivesBool w true) := by
  have m_ci0 := rd_max h_ci0
  unfold maxLen at m_ci0
  by_cases big_ci : 1048576 < (szCi ci : Int)
  · go_enter Try.func7, Try.ntmps7
    go_wp2_with fail
    refine (szCircuit_any ci A_ci0 n_ci0 c_ci0 (1048576) _ (Mem.rd_on_alloc h_ci0 _) (by omega) (by omega)).mono ?_
    rintro e v0 ⟨rfl, bz0⟩
    have k := bz0
    rw [rest_no big_ci]
    go_wp2
    go_ret
    exact ⟨rfl, by first | exact Below.refl _ _ | exact below_alloc _ _ | exact below_call k | exact below_call (below_call k) | exact k⟩
  have sz_ci : ci.gates.length ≤ 1048576 := by have : szCi ci = ci.gates.length := rfl; omega
  have fits_ci := Lib.hid sz_ci
  have CS := Lib.hid (fun A_ci0' n_ci0' c_ci0' w h_ci0' => clausesOf_spec ci e A_ci0' n_ci0' c_ci0' w h_ci0')
  have CI := Lib.hid (fun A_ci0' n_ci0' c_ci0' w h_ci0' => clausesOf_impl ci e A_ci0' n_ci0' c_ci0' w h_ci0')
  have bS := csOf1_sz ci e
  generalize csOf1 ci e = F0 at CS CI bS
  generalize csOf2 ci e = F1 at CS CI
  have nz1 : (F1 != F1) = false := by simp
  have bS := Lib.hid bS
  obtain ⟨mk_ci, HM_ci, hk_ci⟩ : ∃ m : Nat, Hid (m = mkCi ci) ∧ m ≤ 2 * 1048576 := ⟨_, Lib.hid rfl, by unfold mkCi; omega⟩
  have BX := Lib.hid (slClausesOf_box (w := w) (v1 := .int .i64 ci.ins) (v2 := .slice A_ci0 n_ci0 c_ci0) 42)
  go_enter Try.func7, Try.ntmps7
  go_wp2_with fail
  refine (szCircuit_any ci A_ci0 n_ci0 c_ci0 (1048576) _ (Mem.rd_on_alloc h_ci0 _) (by omega) (by omega)).mono ?_
  rintro e v0 ⟨rfl, bz0⟩
  have k := bz0
  rw [rest_yes (by omega)]
  skip
  obtain ⟨B, x0, x1, lx⟩ := BX.out _ k
  have plo_ci_k := k.size
  go_wp2_with fail
  refine (toCircuit_any ci A_ci0 n_ci0 c_ci0 _ (Mem.rd_on h_ci0 B) fits_ci.out).mono ?_
  rintro e w1 ⟨pA_ci0, pn_ci0, pc_ci0, pf_ci0, rfl, po_ci0, pnd_ci, plo_ci, b1⟩
  have sb1 := b1.size
  have k := k.trans (b1.mono k.size)
  obtain ⟨B, x0, x1, lx⟩ := BX.out _ k
  have plo_ci_hi := Mem.own_lt po_ci0
  have slo_k := k.size
  go_wp2_with fail
  refine (CS.out pA_ci0 pn_ci0 pc_ci0  _ (Mem.own_rd po_ci0)).mono ?_
  rintro e w2 ⟨sA0, sn0, sc0, sf0, rfl, so0, snd, slo, b2⟩
  have sb2 := b2.size
  have k := k.trans (b2.mono k.size)
  have po_ci0 := Mem.own_below po_ci0 b2
  obtain ⟨B, x0, x1, lx⟩ := BX.out _ k
  have slo_hi := Mem.own_lt so0
  have xlo_ci_k := k.size
  go_wp2_with fail
  refine (toCircuit_any ci A_ci0 n_ci0 c_ci0 _ (Mem.rd_on_alloc (Mem.rd_on h_ci0 B) _) fits_ci.out).mono ?_
  rintro e w3 ⟨xA_ci0, xn_ci0, xc_ci0, xf_ci0, rfl, xo_ci0, xnd_ci, xlo_ci, b3⟩
  obtain ⟨_, sy0, sy1, sl⟩ := slClausesOf_box 31 w3 b3
  have zb3 := b3.size; rw [World.size_alloc] at zb3
  have b3 := below_call b3
  have sb3 := b3.size
  have k := k.trans (b3.mono k.size)
  have so0 := Mem.own_below so0 b3
  obtain ⟨B, x0, x1, lx⟩ := BX.out _ k
  simp only [World.size_alloc] at xlo_ci
  have xlo_ci_hi := Mem.own_lt xo_ci0
  have glo_k := k.size
  go_wp2_with fail
  refine (CI.out xA_ci0 xn_ci0 xc_ci0  _ (Mem.rd_on_alloc (Mem.own_rd xo_ci0) _)).mono ?_
  rintro e w4 ⟨gA0, gn0, gc0, gf0, rfl, go0, gnd, glo, b4⟩
  obtain ⟨_, xy_ci0, xy_ci1, xl_ci⟩ := slClausesOf_box 48 w4 b4
  have zb4 := b4.size; rw [World.size_alloc] at zb4
  have b4 := below_call b4
  have sb4 := b4.size
  have k := k.trans (b4.mono k.size)
  have sy0 := cell_below b4 (p := ⟨w2.heap.size, 0, none⟩) sl sy0
  have sy1 := cell_below b4 (p := ⟨w2.heap.size, 1, none⟩) sl sy1
  have sl := Nat.lt_of_lt_of_le sl sb4
  have so0 := Mem.own_below so0 b4
  have xo_ci0 := Mem.own_below xo_ci0 b4
  obtain ⟨B, x0, x1, lx⟩ := BX.out _ k
  simp only [World.size_alloc] at glo
  have glo_hi := Mem.own_lt go0
  go_wp2_with fail
  refine (eqClauses_same F0 gA0 gn0 gc0 sA0 sn0 sc0 _ (Mem.rd_on_alloc (Mem.own_rd go0) _) (Mem.rd_on_alloc (Mem.own_rd so0) _) bS.out).mono ?_
  rintro e w5 ⟨rfl, b5⟩
  obtain ⟨_, gy0, gy1, gl⟩ := slClausesOf_box 31 w5 b5
  have zb5 := b5.size; rw [World.size_alloc] at zb5
  have b5 := below_call b5
  have sb5 := b5.size
  have k := k.trans (b5.mono k.size)
  have sy0 := cell_below b5 (p := ⟨w2.heap.size, 0, none⟩) sl sy0
  have sy1 := cell_below b5 (p := ⟨w2.heap.size, 1, none⟩) sl sy1
  have xy_ci0 := cell_below b5 (p := ⟨w3.heap.size, 0, none⟩) xl_ci xy_ci0
  have xy_ci1 := cell_below b5 (p := ⟨w3.heap.size, 1, none⟩) xl_ci xy_ci1
  have sl := Nat.lt_of_lt_of_le sl sb5
  have xl_ci := Nat.lt_of_lt_of_le xl_ci sb5
  have so0 := Mem.own_below so0 b5
  have xo_ci0 := Mem.own_below xo_ci0 b5
  have go0 := Mem.own_below go0 b5
  obtain ⟨B, x0, x1, lx⟩ := BX.out _ k
  have r0_ := Mem.own_rd xo_ci0
  go_wp2
  go_region_held3 (fun w' => w'.cell? ⟨w.heap.size, 0, none⟩ = some (.int .i64 ci.ins) ∧ w'.cell? ⟨w.heap.size, 1, none⟩ = some (.slice A_ci0 n_ci0 c_ci0) ∧ w'.cell? ⟨w3.heap.size, 0, none⟩ = some (.int .i64 ci.ins) ∧ w'.cell? ⟨w3.heap.size, 1, none⟩ = some (.slice xA_ci0 xn_ci0 xc_ci0)) (go_keep)
    (first
      | (go_at_call 28; refine (toCircuit_any ci A_ci0 n_ci0 c_ci0 w5.drew (Mem.rd_drew (Mem.rd_on h_ci0 B)) fits_ci.out).mono ?_; rintro e w6 ⟨R1, g1, j1, q5, rfl, u5, _, _, b6⟩
         have z0 := cell_below b6 (p := ⟨w.heap.size, 0, none⟩) lx x0
         have z1 := cell_below b6 (p := ⟨w.heap.size, 1, none⟩) lx x1
         have z2 := cell_below b6 (p := ⟨w3.heap.size, 0, none⟩) xl_ci xy_ci0
         have z3 := cell_below b6 (p := ⟨w3.heap.size, 1, none⟩) xl_ci xy_ci1
         have l7 := Nat.lt_of_lt_of_le lx b6.size
         have m7 := Nat.lt_of_lt_of_le xl_ci b6.size)
      | (go_at_call 30; refine (eqCircuit_same ci xA_ci0 xn_ci0 xc_ci0 R1 g1 j1 _ (Mem.rd_on (Mem.rd_drew r0_) b6) (Mem.own_rd u5) fits_ci.out).mono ?_; rintro e w7 ⟨rfl, b7⟩
         have z0 := cell_below b7 (p := ⟨w.heap.size, 0, none⟩) l7 z0
         have z1 := cell_below b7 (p := ⟨w.heap.size, 1, none⟩) l7 z1
         have z2 := cell_below b7 (p := ⟨w3.heap.size, 0, none⟩) m7 z2
         have z3 := cell_below b7 (p := ⟨w3.heap.size, 1, none⟩) m7 z3))
  have b7 := (show Below w5.heap.size w5 w6 from ⟨b6.os, b6.tape, b6.output, b6.size, b6.block⟩).trans (b7.mono b6.size)
  clear r0_
  have sb7 := b7.size
  have k := k.trans (b7.mono k.size)
  have sy0 := cell_below b7 (p := ⟨w2.heap.size, 0, none⟩) sl sy0
  have sy1 := cell_below b7 (p := ⟨w2.heap.size, 1, none⟩) sl sy1
  have xy_ci0 := cell_below b7 (p := ⟨w3.heap.size, 0, none⟩) xl_ci xy_ci0
  have xy_ci1 := cell_below b7 (p := ⟨w3.heap.size, 1, none⟩) xl_ci xy_ci1
  have gy0 := cell_below b7 (p := ⟨w4.heap.size, 0, none⟩) gl gy0
  have gy1 := cell_below b7 (p := ⟨w4.heap.size, 1, none⟩) gl gy1
  have gl := Nat.lt_of_lt_of_le gl sb7
  have sl := Nat.lt_of_lt_of_le sl sb7
  have xl_ci := Nat.lt_of_lt_of_le xl_ci sb7
  have so0 := Mem.own_below so0 b7
  have xo_ci0 := Mem.own_below xo_ci0 b7
  have go0 := Mem.own_below go0 b7
  obtain ⟨B, x0, x1, lx⟩ := BX.out _ k
  go_wp2_with fail
  refine (markCircuit_M ci xA_ci0 xn_ci0 xc_ci0 xf_ci0 (1) _ xo_ci0 (by omega) (by omega) sz_ci).mono ?_
  rintro e w8 ⟨rfl, b8⟩
  have sb8 := b8.size
  have k := k.trans (b8.below (by have := k.size; omega) fun b hb => by have := xlo_ci b hb; have := xlo_ci_k; omega)
  have sy0 := (World.cell?_of_block (b8.block w2.heap.size sl (fun hc => by have := xlo_ci _ hc; have := xlo_ci_hi _ hc; omega))).trans sy0
  have sy1 := (World.cell?_of_block (b8.block w2.heap.size sl (fun hc => by have := xlo_ci _ hc; have := xlo_ci_hi _ hc; omega))).trans sy1
  have gy0 := (World.cell?_of_block (b8.block w4.heap.size gl (fun hc => by have := xlo_ci _ hc; have := xlo_ci_hi _ hc; omega))).trans gy0
  have gy1 := (World.cell?_of_block (b8.block w4.heap.size gl (fun hc => by have := xlo_ci _ hc; have := xlo_ci_hi _ hc; omega))).trans gy1
  have gl := Nat.lt_of_lt_of_le gl sb8
  have sl := Nat.lt_of_lt_of_le sl sb8
  have so0 := Mem.own_only so0 b8 fun b hb hc => by have := slo b hb; have := slo_hi b hb; have := xlo_ci b hc; have := xlo_ci_hi b hc; omega
  have go0 := Mem.own_only go0 b8 fun b hb hc => by have := glo b hb; have := glo_hi b hb; have := xlo_ci b hc; have := xlo_ci_hi b hc; omega
  obtain ⟨B, x0, x1, lx⟩ := BX.out _ k
  rw [← HM_ci.out]
  go_wp2_with fail
  refine (eqClauses_same F0 gA0 gn0 gc0 sA0 sn0 sc0 _ (Mem.own_rd go0) (Mem.own_rd so0) bS.out).mono ?_
  rintro e w9 ⟨rfl, b9⟩
  have sb9 := b9.size
  have k := k.trans (b9.mono k.size)
  have sy0 := cell_below b9 (p := ⟨w2.heap.size, 0, none⟩) sl sy0
  have sy1 := cell_below b9 (p := ⟨w2.heap.size, 1, none⟩) sl sy1
  have gy0 := cell_below b9 (p := ⟨w4.heap.size, 0, none⟩) gl gy0
  have gy1 := cell_below b9 (p := ⟨w4.heap.size, 1, none⟩) gl gy1
  have gl := Nat.lt_of_lt_of_le gl sb9
  have sl := Nat.lt_of_lt_of_le sl sb9
  have so0 := Mem.own_below so0 b9
  have go0 := Mem.own_below go0 b9
  obtain ⟨B, x0, x1, lx⟩ := BX.out _ k
  go_wp2_with fail
  refine (markClauses_W F0 gA0 gn0 gc0 gf0 (1) _ go0 gnd (by omega) (by omega) bS.out).mono ?_
  rintro e w10 ⟨rfl, go0, b10⟩
  have sb10 := b10.size
  have k := k.trans (b10.below (by have := k.size; omega) fun b hb => by have := glo b hb; have := glo_k; omega)
  have sy0 := (World.cell?_of_block (b10.block w2.heap.size sl (fun hc => by have := glo _ hc; have := glo_hi _ hc; omega))).trans sy0
  have sy1 := (World.cell?_of_block (b10.block w2.heap.size sl (fun hc => by have := glo _ hc; have := glo_hi _ hc; omega))).trans sy1
  have gy0 := (World.cell?_of_block (b10.block w4.heap.size gl (fun hc => by have := glo _ hc; have := glo_hi _ hc; omega))).trans gy0
  have gy1 := (World.cell?_of_block (b10.block w4.heap.size gl (fun hc => by have := glo _ hc; have := glo_hi _ hc; omega))).trans gy1
  have gl := Nat.lt_of_lt_of_le gl sb10
  have sl := Nat.lt_of_lt_of_le sl sb10
  have so0 := Mem.own_only so0 b10 fun b hb hc => by have := slo b hb; have := slo_hi b hb; have := glo b hc; have := glo_hi b hc; omega
  obtain ⟨B, x0, x1, lx⟩ := BX.out _ k
  have nq : (1 + (mkCs F0 : Int) != 1 + (mkCs F0 : Int)) = false := by simp
  go_wp2_with fail
  refine (heldClauses_W F0 gA0 gn0 gc0 (1) _ (Mem.own_rd go0) (by omega) (by omega) bS.out).mono ?_
  rintro e w11 ⟨rfl, b11⟩
  have sb11 := b11.size
  have k := k.trans (b11.mono k.size)
  have sy0 := cell_below b11 (p := ⟨w2.heap.size, 0, none⟩) sl sy0
  have sy1 := cell_below b11 (p := ⟨w2.heap.size, 1, none⟩) sl sy1
  have gy0 := cell_below b11 (p := ⟨w4.heap.size, 0, none⟩) gl gy0
  have gy1 := cell_below b11 (p := ⟨w4.heap.size, 1, none⟩) gl gy1
  have gl := Nat.lt_of_lt_of_le gl sb11
  have sl := Nat.lt_of_lt_of_le sl sb11
  have so0 := Mem.own_below so0 b11
  have go0 := Mem.own_below go0 b11
  obtain ⟨B, x0, x1, lx⟩ := BX.out _ k
  have qlo_ci_k := k.size
  go_wp2_with fail
  refine (toCircuit_any ci A_ci0 n_ci0 c_ci0 _ (Mem.rd_on h_ci0 B) fits_ci.out).mono ?_
  rintro e w12 ⟨qA_ci0, qn_ci0, qc_ci0, qf_ci0, rfl, qo_ci0, qnd_ci, qlo_ci, b12⟩
  have sb12 := b12.size
  have k := k.trans (b12.mono k.size)
  have sy0 := cell_below b12 (p := ⟨w2.heap.size, 0, none⟩) sl sy0
  have sy1 := cell_below b12 (p := ⟨w2.heap.size, 1, none⟩) sl sy1
  have gy0 := cell_below b12 (p := ⟨w4.heap.size, 0, none⟩) gl gy0
  have gy1 := cell_below b12 (p := ⟨w4.heap.size, 1, none⟩) gl gy1
  have gl := Nat.lt_of_lt_of_le gl sb12
  have sl := Nat.lt_of_lt_of_le sl sb12
  have so0 := Mem.own_below so0 b12
  have go0 := Mem.own_below go0 b12
  obtain ⟨B, x0, x1, lx⟩ := BX.out _ k
  have qlo_ci_hi := Mem.own_lt qo_ci0
  have hlo_k := k.size
  go_wp2_with fail
  refine (CI.out qA_ci0 qn_ci0 qc_ci0  _ (Mem.own_rd qo_ci0)).mono ?_
  rintro e w13 ⟨hA0, hn0, hc0, hf0, rfl, ho0, hnd, hlo, b13⟩
  have sb13 := b13.size
  have k := k.trans (b13.mono k.size)
  have sy0 := cell_below b13 (p := ⟨w2.heap.size, 0, none⟩) sl sy0
  have sy1 := cell_below b13 (p := ⟨w2.heap.size, 1, none⟩) sl sy1
  have gy0 := cell_below b13 (p := ⟨w4.heap.size, 0, none⟩) gl gy0
  have gy1 := cell_below b13 (p := ⟨w4.heap.size, 1, none⟩) gl gy1
  have gl := Nat.lt_of_lt_of_le gl sb13
  have sl := Nat.lt_of_lt_of_le sl sb13
  have so0 := Mem.own_below so0 b13
  have go0 := Mem.own_below go0 b13
  have qo_ci0 := Mem.own_below qo_ci0 b13
  obtain ⟨B, x0, x1, lx⟩ := BX.out _ k
  have hlo_hi := Mem.own_lt ho0
  go_wp2_with fail
  refine (eqClauses_same F0 hA0 hn0 hc0 sA0 sn0 sc0 _ (Mem.rd_on_alloc (Mem.own_rd ho0) _) (Mem.rd_on_alloc (Mem.own_rd so0) _) bS.out).mono ?_
  rintro e w14 ⟨rfl, b14⟩
  obtain ⟨_, hy0, hy1, hl⟩ := slClausesOf_box 31 w14 b14
  have zb14 := b14.size; rw [World.size_alloc] at zb14
  have b14 := below_call b14
  have sb14 := b14.size
  have k := k.trans (b14.mono k.size)
  have sy0 := cell_below b14 (p := ⟨w2.heap.size, 0, none⟩) sl sy0
  have sy1 := cell_below b14 (p := ⟨w2.heap.size, 1, none⟩) sl sy1
  have gy0 := cell_below b14 (p := ⟨w4.heap.size, 0, none⟩) gl gy0
  have gy1 := cell_below b14 (p := ⟨w4.heap.size, 1, none⟩) gl gy1
  have gl := Nat.lt_of_lt_of_le gl sb14
  have sl := Nat.lt_of_lt_of_le sl sb14
  have so0 := Mem.own_below so0 b14
  have go0 := Mem.own_below go0 b14
  have ho0 := Mem.own_below ho0 b14
  obtain ⟨B, x0, x1, lx⟩ := BX.out _ k
  go_wp2_with fail
  refine (heldClauses_W F0 gA0 gn0 gc0 (1) _ (Mem.own_rd go0) (by omega) (by omega) bS.out).mono ?_
  rintro e w15 ⟨rfl, b15⟩
  have sb15 := b15.size
  have k := k.trans (b15.mono k.size)
  have sy0 := cell_below b15 (p := ⟨w2.heap.size, 0, none⟩) sl sy0
  have sy1 := cell_below b15 (p := ⟨w2.heap.size, 1, none⟩) sl sy1
  have gy0 := cell_below b15 (p := ⟨w4.heap.size, 0, none⟩) gl gy0
  have gy1 := cell_below b15 (p := ⟨w4.heap.size, 1, none⟩) gl gy1
  have hy0 := cell_below b15 (p := ⟨w13.heap.size, 0, none⟩) hl hy0
  have hy1 := cell_below b15 (p := ⟨w13.heap.size, 1, none⟩) hl hy1
  have gl := Nat.lt_of_lt_of_le gl sb15
  have hl := Nat.lt_of_lt_of_le hl sb15
  have sl := Nat.lt_of_lt_of_le sl sb15
  have so0 := Mem.own_below so0 b15
  have go0 := Mem.own_below go0 b15
  have ho0 := Mem.own_below ho0 b15
  obtain ⟨B, x0, x1, lx⟩ := BX.out _ k
  go_wp2
  go_ret
  exact ⟨rfl, B⟩

set_option maxRecDepth 100000 in
theorem slClausesOf_lifted (os : Os) (started : os.Started) (H : Type) (enc : TypeId × Value → H) :
    ReturnsInHanded {} Try.checked os 7 .any (Rows.fnExactClausesOfSpec.pre6 enc Try.prog Try.f7 Rows.fnExactClausesOfRow.domain false) (Rows.fnExactClausesOfSpec.post enc Try.prog Try.f7 false true false false) := by
  refine returnsInHanded_of_change (C := Try.checked) Try.own started (by kernel_rfl) Try.func7
    (ChangeSpec.witness6 (enc := enc) (C := Try.checked) false ⟨#[], #[.agg #[.int .i64 0, .slice none 0 0], .int .i64 0], []⟩ 8 (by kernel_rfl) (by kernel_rfl) (by kernel_rfl) (by kernel_rfl)) ?_
  intro W base args ds gs before hval0 hW hcnd _
  have hval : ∀ (j : Nat) t v, Try.f7.params[j]? = some t → args[j]? = some v → Value.okWide Try.prog W .any base t v := hval0
  have hW' := hW
  have hW2 := hW
  obtain ⟨p, q, hA0, hV, rfl, hfz, hnd⟩ := hW2
  have hA : DataW.TrodAll enc Try.prog W 0 (fun _ => true) true Try.f7.params.toList args.toList ds p := hA0
  rw [Try.params7] at hA hval
  obtain ⟨u0, u1, d0, d1, p0, p1, rfl, rfl, rfl, h0, h1⟩ := trodAll_two hA
  obtain ⟨rfl, rfl⟩ := trodVars_none hV
  have k0 := h0
  obtain ⟨A_ci0, n_ci0, c_ci0, ci, rfl, ra0, wf0⟩ := open_circuit (hval 0 42 u0 rfl rfl) h0
  obtain ⟨e, rfl, rfl, rfl, wf1⟩ := open_int Try.underlying3 (hval 1 3 u1 rfl rfl) h1
  clear hA0 hval0
  simp only [List.append_nil] at hW'
  have hlt : ∀ x ∈ p0, x.block < W.heap.size := fun x hx => hW'.lt x (by simpa using hx)
  refine (slClausesOf_any ci e A_ci0 n_ci0 c_ci0 W ra0).mono fun e W' ⟨he, hb⟩ => ?_
  subst he
  exact ⟨_, rfl, post_below (pa := p0 ++ ([])) (pv := []) hW' (fun _ _ _ => trodAll_mk1 (shut_bool Try.underlying4 _))
    (fun sp hsp => trodAll_mk2 (WideElems.Trod_stays Try.laidOut (by kernel_rfl) (of_decide_eq_true (by kernel_rfl)) k0 (fun x hx => hb.same (hlt x (by simp [hx]))) (fun x hx => hsp x (by simp [hx]))) (shut_int Try.underlying3 wf1)) (fun _ _ => rfl) (by simp)
    hb (ok_one (by kernel_rfl) rfl (okWide_bool_mk Try.underlying4 _))⟩

theorem slClausesOf_holds : Rows.FnExactClausesOfSaid :=
  OpenClaim.holds_of_wide 7 Try.f7 rfl rfl rfl rfl rfl rfl rfl ⟨rfl, rfl, rfl, rfl, rfl⟩ rfl rfl rfl rfl rfl (by kernel_rfl) Try.func7 (by kernel_rfl)
    (of_decide_eq_true (by kernel_rfl)) (by unfold Func.isWrapper; first | (rw [if_pos (by decide +kernel)]; kernel_rfl) | (rw [if_neg (by decide +kernel)]; exact ⟨rfl, rfl⟩))
    (fun os started H enc _ => slClausesOf_lifted os started H enc)
end Go.Proofs.Ythlkbkomecnbaaa
