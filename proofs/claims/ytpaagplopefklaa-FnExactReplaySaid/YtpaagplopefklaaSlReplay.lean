/- For every input the law FnExactReplay returns true: the function answers as its model, and writes into no argument. -/
import Derived.Test.YtpaagplopefklaaRepI
import Derived.Test.YtpaagplopefklaaIl
import Derived.Test.YtpaagplopefklaaTr
import Derived.Test.YtpaagplopefklaaOpenSy
import Derived.Deep.RegionHeld3
namespace Go.Proofs.Ytpaagplopefklaa
open Go.ChangeShapes Go.WideShapes Go.ChangeAt Go.RowKit

theorem slReplay_box {w : World} {v1 v2 : Value} (t : TypeId) : ∀ W, Below (w.alloc (.cells #[v1, v2] t)).heap.size (w.alloc (.cells #[v1, v2] t)) W →
    Below w.heap.size w W ∧ W.cell? ⟨w.heap.size, 0, none⟩ = some v1 ∧ W.cell? ⟨w.heap.size, 1, none⟩ = some v2 ∧ w.heap.size < W.heap.size :=
  fun W hW => ⟨below_call hW, ((Blk.new w _ _).below hW (by simp)).cell 0, ((Blk.new w _ _).below hW (by simp)).cell 1, by have := hW.size; simp at this; omega⟩

set_option maxRecDepth 100000 in
set_option maxHeartbeats 8000000 in
theorem slReplay_any (s : Sy) (rs : List Int) (A_s0 : Option Addr) (n_s0 c_s0 : Nat) (A_s1 : Option Addr) (n_s1 c_s1 : Nat) (A_rs0 : Option Addr) (n_rs0 c_rs0 : Nat) (w : World) (h_s0 : Mem.rd w w.heap.size [.slice A_s0 n_s0 c_s0] s.vars) (h_s1 : Mem.rd w w.heap.size [.slice A_s1 n_s1 c_s1] s.rules) (h_rs0 : Mem.rd w w.heap.size [.slice A_rs0 n_rs0 c_rs0] rs) :
    Calls Try.prog 10 #[.agg #[.slice A_s0 n_s0 c_s0, .slice A_s1 n_s1 c_s1], .slice A_rs0 n_rs0 c_rs0] w (GivesBool w true) := by
  have m_s0 := rd_max h_s0
  have m_s1 := rd_max h_s1
  have m_rs0 := rd_max h_rs0
  unfold maxLen at m_s0 m_s1 m_rs0
  by_cases big_rs : 1048576 < n_rs0
  · go_enter Try.func10, Try.ntmps10
    go_wp2
    go_ret
    exact ⟨rfl, by first | exact Below.refl _ _ | exact below_alloc _ _ | exact (below_alloc _ _).trans ((below_alloc _ _).mono (by simp))⟩
  by_cases big_s : 1048576 < (szSy s : Int)
  · go_enter Try.func10, Try.ntmps10
    go_wp2_with fail
    refine (szSystem_any s A_s0 n_s0 c_s0 A_s1 n_s1 c_s1 (1048576) _ (Mem.rd_on_alloc h_s0 _) (Mem.rd_on_alloc h_s1 _) (by omega) (by omega)).mono ?_
    rintro e v0 ⟨rfl, bz0⟩
    have k := bz0
    rw [rest_no big_s]
    go_wp2
    go_ret
    exact ⟨rfl, by first | exact Below.refl _ _ | exact below_alloc _ _ | exact below_call k | exact below_call (below_call k) | exact k⟩
  have fits_s := Lib.hid (Sy.fits_of (s := s) (by omega))
  have sz_s : szSy s ≤ 1048576 := by omega
  have i_rs : n_rs0 ≤ 1048576 := by omega
  have sz_rs : rs.length ≤ 1048576 := by rw [rd_len h_rs0]; exact i_rs
  have CS := Lib.hid (fun A_s0' n_s0' c_s0' A_s1' n_s1' c_s1' A_rs0' n_rs0' c_rs0' w h_s0' h_s1' h_rs0' => replay_spec s rs A_s0' n_s0' c_s0' A_s1' n_s1' c_s1' A_rs0' n_rs0' c_rs0' w h_s0' h_s1' h_rs0')
  have CI := Lib.hid (fun A_s0' n_s0' c_s0' A_s1' n_s1' c_s1' A_rs0' n_rs0' c_rs0' w h_s0' h_s1' h_rs0' => replay_impl s rs A_s0' n_s0' c_s0' A_s1' n_s1' c_s1' A_rs0' n_rs0' c_rs0' w h_s0' h_s1' h_rs0')
  have bS := repS_sz s rs
  have bR := repR_len s rs
  generalize repS s rs = F0 at CS CI bS
  generalize repR s rs = F1 at CS CI bR
  generalize repK s rs = F2 at CS CI
  have nz2 : (F2 != F2) = false := by simp
  have trF := (ii_fits bS).2
  have trF := Lib.hid trF
  have bS := Lib.hid bS
  have bR := Lib.hid bR
  obtain ⟨mk_s, HM_s, hk_s⟩ : ∃ m : Nat, Hid (m = mkSy s) ∧ m ≤ 4 * 1048576 := ⟨_, Lib.hid rfl, by have := mkRls_le s.rules; unfold szSy at sz_s; unfold mkSy; omega⟩
  obtain ⟨mk_rs, HM_rs, hk_rs⟩ : ∃ m : Nat, Hid (m = rs.length) ∧ m ≤ 1048576 := ⟨_, Lib.hid rfl, sz_rs⟩
  have BX := Lib.hid (slReplay_box (w := w) (v1 := .slice A_s0 n_s0 c_s0) (v2 := .slice A_s1 n_s1 c_s1) 25)
  go_enter Try.func10, Try.ntmps10
  go_wp2_with fail
  refine (szSystem_any s A_s0 n_s0 c_s0 A_s1 n_s1 c_s1 (1048576) _ (Mem.rd_on_alloc h_s0 _) (Mem.rd_on_alloc h_s1 _) (by omega) (by omega)).mono ?_
  rintro e v0 ⟨rfl, bz0⟩
  have k := bz0
  rw [rest_yes (by omega)]
  skip
  obtain ⟨B, x0, x1, lx⟩ := BX.out _ k
  have plo_s_k := k.size
  go_wp2_with fail
  refine (toSystem_any s A_s0 n_s0 c_s0 A_s1 n_s1 c_s1 _ (Mem.rd_on h_s0 B) (Mem.rd_on h_s1 B) fits_s.out).mono ?_
  rintro e w1 ⟨pA_s0, pn_s0, pc_s0, pA_s1, pn_s1, pc_s1, pf_s0, pf_s1, rfl, po_s0, po_s1, pnd_s, plo_s, b1⟩
  have sb1 := b1.size
  have k := k.trans (b1.mono k.size)
  obtain ⟨B, x0, x1, lx⟩ := BX.out _ k
  have plo_s0 : ∀ b ∈ pf_s0, _ := fun b hb => plo_s b (List.mem_append_left _ hb)
  have plo_s0_hi := Mem.own_lt po_s0
  have plo_s1 : ∀ b ∈ pf_s1, _ := fun b hb => plo_s b (List.mem_append_right _ hb)
  have plo_s1_hi := Mem.own_lt po_s1
  have plo_s_hi : ∀ b ∈ pf_s0 ++ pf_s1, _ := fun b hb => (List.mem_append.1 hb).elim (plo_s0_hi b) (plo_s1_hi b)
  have plo_rs_k := k.size
  go_wp2_with fail
  refine (toIntS_M A_rs0 n_rs0 c_rs0 rs _ (Mem.rd_on h_rs0 B) i_rs).mono ?_
  rintro e w2 ⟨pA_rs0, pn_rs0, pc_rs0, pf_rs0, rfl, po_rs0, pnd_rs, plo_rs, b2⟩
  have sb2 := b2.size
  have k := k.trans (b2.mono k.size)
  have po_s0 := Mem.own_below po_s0 b2
  have po_s1 := Mem.own_below po_s1 b2
  obtain ⟨B, x0, x1, lx⟩ := BX.out _ k
  have plo_rs_hi := Mem.own_lt po_rs0
  have slo_k := k.size
  go_wp2_with fail
  refine (CS.out pA_s0 pn_s0 pc_s0 pA_s1 pn_s1 pc_s1 pA_rs0 pn_rs0 pc_rs0  _ (Mem.own_rd po_s0) (Mem.own_rd po_s1) (Mem.own_rd po_rs0)).mono ?_
  rintro e w3 ⟨sA0, sn0, sc0, sA1, sn1, sc1, sf0, sf1, rfl, so0, so1, snd, slo, b3⟩
  have sb3 := b3.size
  have k := k.trans (b3.mono k.size)
  have po_s0 := Mem.own_below po_s0 b3
  have po_s1 := Mem.own_below po_s1 b3
  have po_rs0 := Mem.own_below po_rs0 b3
  obtain ⟨B, x0, x1, lx⟩ := BX.out _ k
  have slo0 : ∀ b ∈ sf0, _ := fun b hb => slo b (List.mem_append_left _ hb)
  have slo0_k := slo_k
  have slo0_hi := Mem.own_lt so0
  have slo1 : ∀ b ∈ sf1, _ := fun b hb => slo b (List.mem_append_right _ hb)
  have slo1_k := slo_k
  have slo1_hi := Mem.own_lt so1
  have slo_hi : ∀ b ∈ sf0 ++ sf1, _ := fun b hb => (List.mem_append.1 hb).elim (slo0_hi b) (slo1_hi b)
  have xlo_s_k := k.size
  go_wp2_with fail
  refine (toSystem_any s A_s0 n_s0 c_s0 A_s1 n_s1 c_s1 _ (Mem.rd_on_alloc (Mem.rd_on h_s0 B) _) (Mem.rd_on_alloc (Mem.rd_on h_s1 B) _) fits_s.out).mono ?_
  rintro e w4 ⟨xA_s0, xn_s0, xc_s0, xA_s1, xn_s1, xc_s1, xf_s0, xf_s1, rfl, xo_s0, xo_s1, xnd_s, xlo_s, b4⟩
  obtain ⟨_, sy0, sy1, sl⟩ := slReplay_box 53 w4 b4
  have zb4 := b4.size; rw [World.size_alloc] at zb4
  have b4 := below_call b4
  have sb4 := b4.size
  have k := k.trans (b4.mono k.size)
  have so0 := Mem.own_below so0 b4
  have so1 := Mem.own_below so1 b4
  obtain ⟨B, x0, x1, lx⟩ := BX.out _ k
  simp only [World.size_alloc] at xlo_s
  have xlo_s0 : ∀ b ∈ xf_s0, _ := fun b hb => xlo_s b (List.mem_append_left _ hb)
  have xlo_s0_hi := Mem.own_lt xo_s0
  have xlo_s1 : ∀ b ∈ xf_s1, _ := fun b hb => xlo_s b (List.mem_append_right _ hb)
  have xlo_s1_hi := Mem.own_lt xo_s1
  have xlo_s_hi : ∀ b ∈ xf_s0 ++ xf_s1, _ := fun b hb => (List.mem_append.1 hb).elim (xlo_s0_hi b) (xlo_s1_hi b)
  have xlo_rs_k := k.size
  go_wp2_with fail
  refine (toIntS_M A_rs0 n_rs0 c_rs0 rs _ (Mem.rd_on_alloc (Mem.rd_on h_rs0 B) _) i_rs).mono ?_
  rintro e w5 ⟨xA_rs0, xn_rs0, xc_rs0, xf_rs0, rfl, xo_rs0, xnd_rs, xlo_rs, b5⟩
  obtain ⟨_, xy_s0, xy_s1, xl_s⟩ := slReplay_box 31 w5 b5
  have zb5 := b5.size; rw [World.size_alloc] at zb5
  have b5 := below_call b5
  have sb5 := b5.size
  have k := k.trans (b5.mono k.size)
  have sy0 := cell_below b5 (p := ⟨w3.heap.size, 0, none⟩) sl sy0
  have sy1 := cell_below b5 (p := ⟨w3.heap.size, 1, none⟩) sl sy1
  have sl := Nat.lt_of_lt_of_le sl sb5
  have so0 := Mem.own_below so0 b5
  have so1 := Mem.own_below so1 b5
  have xo_s0 := Mem.own_below xo_s0 b5
  have xo_s1 := Mem.own_below xo_s1 b5
  obtain ⟨B, x0, x1, lx⟩ := BX.out _ k
  simp only [World.size_alloc] at xlo_rs
  have xlo_rs_hi := Mem.own_lt xo_rs0
  have glo_k := k.size
  go_wp2_with fail
  refine (CI.out xA_s0 xn_s0 xc_s0 xA_s1 xn_s1 xc_s1 xA_rs0 xn_rs0 xc_rs0  _ (Mem.own_rd xo_s0) (Mem.own_rd xo_s1) (Mem.own_rd xo_rs0)).mono ?_
  rintro e w6 ⟨gA0, gn0, gc0, gA1, gn1, gc1, gf0, gf1, rfl, go0, go1, gnd, glo, b6⟩
  have sb6 := b6.size
  have k := k.trans (b6.mono k.size)
  have sy0 := cell_below b6 (p := ⟨w3.heap.size, 0, none⟩) sl sy0
  have sy1 := cell_below b6 (p := ⟨w3.heap.size, 1, none⟩) sl sy1
  have xy_s0 := cell_below b6 (p := ⟨w4.heap.size, 0, none⟩) xl_s xy_s0
  have xy_s1 := cell_below b6 (p := ⟨w4.heap.size, 1, none⟩) xl_s xy_s1
  have sl := Nat.lt_of_lt_of_le sl sb6
  have xl_s := Nat.lt_of_lt_of_le xl_s sb6
  have so0 := Mem.own_below so0 b6
  have so1 := Mem.own_below so1 b6
  have xo_s0 := Mem.own_below xo_s0 b6
  have xo_s1 := Mem.own_below xo_s1 b6
  have xo_rs0 := Mem.own_below xo_rs0 b6
  obtain ⟨B, x0, x1, lx⟩ := BX.out _ k
  have glo0 : ∀ b ∈ gf0, _ := fun b hb => glo b (List.mem_append_left _ hb)
  have glo0_k := glo_k
  have glo0_hi := Mem.own_lt go0
  have glo1 : ∀ b ∈ gf1, _ := fun b hb => glo b (List.mem_append_right _ hb)
  have glo1_k := glo_k
  have glo1_hi := Mem.own_lt go1
  have glo_hi : ∀ b ∈ gf0 ++ gf1, _ := fun b hb => (List.mem_append.1 hb).elim (glo0_hi b) (glo1_hi b)
  go_wp2_with fail
  refine (eqTrace_same F0 F1 gA0 gn0 gc0 gA1 gn1 gc1 sA0 sn0 sc0 sA1 sn1 sc1 _ (Mem.rd_on_alloc (Mem.own_rd go0) _) (Mem.rd_on_alloc (Mem.own_rd go1) _) (Mem.rd_on_alloc (Mem.own_rd so0) _) (Mem.rd_on_alloc (Mem.own_rd so1) _) trF.out).mono ?_
  rintro e w7 ⟨rfl, b7⟩
  obtain ⟨_, gy0, gy1, gl⟩ := slReplay_box 53 w7 b7
  have zb7 := b7.size; rw [World.size_alloc] at zb7
  have b7 := below_call b7
  have sb7 := b7.size
  have k := k.trans (b7.mono k.size)
  have sy0 := cell_below b7 (p := ⟨w3.heap.size, 0, none⟩) sl sy0
  have sy1 := cell_below b7 (p := ⟨w3.heap.size, 1, none⟩) sl sy1
  have xy_s0 := cell_below b7 (p := ⟨w4.heap.size, 0, none⟩) xl_s xy_s0
  have xy_s1 := cell_below b7 (p := ⟨w4.heap.size, 1, none⟩) xl_s xy_s1
  have sl := Nat.lt_of_lt_of_le sl sb7
  have xl_s := Nat.lt_of_lt_of_le xl_s sb7
  have so0 := Mem.own_below so0 b7
  have so1 := Mem.own_below so1 b7
  have xo_s0 := Mem.own_below xo_s0 b7
  have xo_s1 := Mem.own_below xo_s1 b7
  have xo_rs0 := Mem.own_below xo_rs0 b7
  have go0 := Mem.own_below go0 b7
  have go1 := Mem.own_below go1 b7
  obtain ⟨B, x0, x1, lx⟩ := BX.out _ k
  have r0_ := Mem.own_rd xo_s0
  have r1_ := Mem.own_rd xo_s1
  go_wp2
  go_region_held3 (fun w' => w'.cell? ⟨w.heap.size, 0, none⟩ = some (.slice A_s0 n_s0 c_s0) ∧ w'.cell? ⟨w.heap.size, 1, none⟩ = some (.slice A_s1 n_s1 c_s1) ∧ w'.cell? ⟨w4.heap.size, 0, none⟩ = some (.slice xA_s0 xn_s0 xc_s0) ∧ w'.cell? ⟨w4.heap.size, 1, none⟩ = some (.slice xA_s1 xn_s1 xc_s1)) (go_keep)
    (first
      | (go_at_call 14; refine (toSystem_any s A_s0 n_s0 c_s0 A_s1 n_s1 c_s1 w7.drew (Mem.rd_drew (Mem.rd_on h_s0 B)) (Mem.rd_drew (Mem.rd_on h_s1 B)) fits_s.out).mono ?_; rintro e w8 ⟨R1, g1, j1, R2, g2, j2, q5, q6, rfl, u5, u6, _, _, b8⟩
         have z0 := cell_below b8 (p := ⟨w.heap.size, 0, none⟩) lx x0
         have z1 := cell_below b8 (p := ⟨w.heap.size, 1, none⟩) lx x1
         have z2 := cell_below b8 (p := ⟨w4.heap.size, 0, none⟩) xl_s xy_s0
         have z3 := cell_below b8 (p := ⟨w4.heap.size, 1, none⟩) xl_s xy_s1
         have l7 := Nat.lt_of_lt_of_le lx b8.size
         have m7 := Nat.lt_of_lt_of_le xl_s b8.size)
      | (go_at_call 16; refine (eqSystem_same s xA_s0 xn_s0 xc_s0 xA_s1 xn_s1 xc_s1 R1 g1 j1 R2 g2 j2 _ (Mem.rd_on (Mem.rd_drew r0_) b8) (Mem.rd_on (Mem.rd_drew r1_) b8) (Mem.own_rd u5) (Mem.own_rd u6) fits_s.out).mono ?_; rintro e w9 ⟨rfl, b9⟩
         have z0 := cell_below b9 (p := ⟨w.heap.size, 0, none⟩) l7 z0
         have z1 := cell_below b9 (p := ⟨w.heap.size, 1, none⟩) l7 z1
         have z2 := cell_below b9 (p := ⟨w4.heap.size, 0, none⟩) m7 z2
         have z3 := cell_below b9 (p := ⟨w4.heap.size, 1, none⟩) m7 z3))
  have b9 := (show Below w7.heap.size w7 w8 from ⟨b8.os, b8.tape, b8.output, b8.size, b8.block⟩).trans (b9.mono b8.size)
  clear r0_ r1_
  have sb9 := b9.size
  have k := k.trans (b9.mono k.size)
  have sy0 := cell_below b9 (p := ⟨w3.heap.size, 0, none⟩) sl sy0
  have sy1 := cell_below b9 (p := ⟨w3.heap.size, 1, none⟩) sl sy1
  have xy_s0 := cell_below b9 (p := ⟨w4.heap.size, 0, none⟩) xl_s xy_s0
  have xy_s1 := cell_below b9 (p := ⟨w4.heap.size, 1, none⟩) xl_s xy_s1
  have gy0 := cell_below b9 (p := ⟨w6.heap.size, 0, none⟩) gl gy0
  have gy1 := cell_below b9 (p := ⟨w6.heap.size, 1, none⟩) gl gy1
  have gl := Nat.lt_of_lt_of_le gl sb9
  have sl := Nat.lt_of_lt_of_le sl sb9
  have xl_s := Nat.lt_of_lt_of_le xl_s sb9
  have so0 := Mem.own_below so0 b9
  have so1 := Mem.own_below so1 b9
  have xo_s0 := Mem.own_below xo_s0 b9
  have xo_s1 := Mem.own_below xo_s1 b9
  have xo_rs0 := Mem.own_below xo_rs0 b9
  have go0 := Mem.own_below go0 b9
  have go1 := Mem.own_below go1 b9
  obtain ⟨B, x0, x1, lx⟩ := BX.out _ k
  have elo_rs_k := k.size
  go_wp2_with fail
  refine (toIntS_M A_rs0 n_rs0 c_rs0 rs _ (Mem.rd_on h_rs0 B) i_rs).mono ?_
  rintro e w10 ⟨eA_rs0, en_rs0, ec_rs0, ef_rs0, rfl, eo_rs0, end_rs, elo_rs, b10⟩
  have sb10 := b10.size
  have k := k.trans (b10.mono k.size)
  have sy0 := cell_below b10 (p := ⟨w3.heap.size, 0, none⟩) sl sy0
  have sy1 := cell_below b10 (p := ⟨w3.heap.size, 1, none⟩) sl sy1
  have xy_s0 := cell_below b10 (p := ⟨w4.heap.size, 0, none⟩) xl_s xy_s0
  have xy_s1 := cell_below b10 (p := ⟨w4.heap.size, 1, none⟩) xl_s xy_s1
  have gy0 := cell_below b10 (p := ⟨w6.heap.size, 0, none⟩) gl gy0
  have gy1 := cell_below b10 (p := ⟨w6.heap.size, 1, none⟩) gl gy1
  have gl := Nat.lt_of_lt_of_le gl sb10
  have sl := Nat.lt_of_lt_of_le sl sb10
  have xl_s := Nat.lt_of_lt_of_le xl_s sb10
  have so0 := Mem.own_below so0 b10
  have so1 := Mem.own_below so1 b10
  have xo_s0 := Mem.own_below xo_s0 b10
  have xo_s1 := Mem.own_below xo_s1 b10
  have xo_rs0 := Mem.own_below xo_rs0 b10
  have go0 := Mem.own_below go0 b10
  have go1 := Mem.own_below go1 b10
  obtain ⟨B, x0, x1, lx⟩ := BX.out _ k
  have elo_rs_hi := Mem.own_lt eo_rs0
  go_wp2_with fail
  refine (eqIntS_M xA_rs0 eA_rs0 xn_rs0 xc_rs0 en_rs0 ec_rs0 rs _ (Mem.own_rd xo_rs0) (Mem.own_rd eo_rs0)).mono ?_
  rintro e w11 ⟨rfl, b11⟩
  have sb11 := b11.size
  have k := k.trans (b11.mono k.size)
  have sy0 := cell_below b11 (p := ⟨w3.heap.size, 0, none⟩) sl sy0
  have sy1 := cell_below b11 (p := ⟨w3.heap.size, 1, none⟩) sl sy1
  have xy_s0 := cell_below b11 (p := ⟨w4.heap.size, 0, none⟩) xl_s xy_s0
  have xy_s1 := cell_below b11 (p := ⟨w4.heap.size, 1, none⟩) xl_s xy_s1
  have gy0 := cell_below b11 (p := ⟨w6.heap.size, 0, none⟩) gl gy0
  have gy1 := cell_below b11 (p := ⟨w6.heap.size, 1, none⟩) gl gy1
  have gl := Nat.lt_of_lt_of_le gl sb11
  have sl := Nat.lt_of_lt_of_le sl sb11
  have xl_s := Nat.lt_of_lt_of_le xl_s sb11
  have so0 := Mem.own_below so0 b11
  have so1 := Mem.own_below so1 b11
  have xo_s0 := Mem.own_below xo_s0 b11
  have xo_s1 := Mem.own_below xo_s1 b11
  have xo_rs0 := Mem.own_below xo_rs0 b11
  have go0 := Mem.own_below go0 b11
  have go1 := Mem.own_below go1 b11
  have eo_rs0 := Mem.own_below eo_rs0 b11
  obtain ⟨B, x0, x1, lx⟩ := BX.out _ k
  go_wp2_with fail
  refine (markSystem_M s xA_s0 xn_s0 xc_s0 xA_s1 xn_s1 xc_s1 xf_s0 xf_s1 (1) _ xo_s0 xo_s1 xnd_s (by omega) (by omega) sz_s).mono ?_
  rintro e w12 ⟨rfl, b12⟩
  have sb12 := b12.size
  have k := k.trans (b12.below (by have := k.size; omega) fun b hb => by have := xlo_s b hb; have := xlo_s_k; omega)
  have sy0 := (World.cell?_of_block (b12.block w3.heap.size sl (fun hc => by have := xlo_s _ hc; have := xlo_s_hi _ hc; omega))).trans sy0
  have sy1 := (World.cell?_of_block (b12.block w3.heap.size sl (fun hc => by have := xlo_s _ hc; have := xlo_s_hi _ hc; omega))).trans sy1
  have gy0 := (World.cell?_of_block (b12.block w6.heap.size gl (fun hc => by have := xlo_s _ hc; have := xlo_s_hi _ hc; omega))).trans gy0
  have gy1 := (World.cell?_of_block (b12.block w6.heap.size gl (fun hc => by have := xlo_s _ hc; have := xlo_s_hi _ hc; omega))).trans gy1
  have gl := Nat.lt_of_lt_of_le gl sb12
  have sl := Nat.lt_of_lt_of_le sl sb12
  have so0 := Mem.own_only so0 b12 fun b hb hc => by have := slo0 b hb; have := slo0_hi b hb; have := xlo_s b hc; have := xlo_s_hi b hc; omega
  have so1 := Mem.own_only so1 b12 fun b hb hc => by have := slo1 b hb; have := slo1_hi b hb; have := xlo_s b hc; have := xlo_s_hi b hc; omega
  have xo_rs0 := Mem.own_only xo_rs0 b12 fun b hb hc => by have := xlo_rs b hb; have := xlo_rs_hi b hb; have := xlo_s b hc; have := xlo_s_hi b hc; omega
  have go0 := Mem.own_only go0 b12 fun b hb hc => by have := glo0 b hb; have := glo0_hi b hb; have := xlo_s b hc; have := xlo_s_hi b hc; omega
  have go1 := Mem.own_only go1 b12 fun b hb hc => by have := glo1 b hb; have := glo1_hi b hb; have := xlo_s b hc; have := xlo_s_hi b hc; omega
  obtain ⟨B, x0, x1, lx⟩ := BX.out _ k
  rw [← HM_s.out]
  go_wp2_with fail
  refine (markIntS_M xA_rs0 xn_rs0 xc_rs0 rs xf_rs0 (1 + (mk_s : Int)) _ xo_rs0 (by omega) (by omega) sz_rs).mono ?_
  rintro e w13 ⟨rfl, b13⟩
  have sb13 := b13.size
  have k := k.trans (b13.below (by have := k.size; omega) fun b hb => by have := xlo_rs b hb; have := xlo_rs_k; omega)
  have sy0 := (World.cell?_of_block (b13.block w3.heap.size sl (fun hc => by have := xlo_rs _ hc; have := xlo_rs_hi _ hc; omega))).trans sy0
  have sy1 := (World.cell?_of_block (b13.block w3.heap.size sl (fun hc => by have := xlo_rs _ hc; have := xlo_rs_hi _ hc; omega))).trans sy1
  have gy0 := (World.cell?_of_block (b13.block w6.heap.size gl (fun hc => by have := xlo_rs _ hc; have := xlo_rs_hi _ hc; omega))).trans gy0
  have gy1 := (World.cell?_of_block (b13.block w6.heap.size gl (fun hc => by have := xlo_rs _ hc; have := xlo_rs_hi _ hc; omega))).trans gy1
  have gl := Nat.lt_of_lt_of_le gl sb13
  have sl := Nat.lt_of_lt_of_le sl sb13
  have so0 := Mem.own_only so0 b13 fun b hb hc => by have := slo0 b hb; have := slo0_hi b hb; have := xlo_rs b hc; have := xlo_rs_hi b hc; omega
  have so1 := Mem.own_only so1 b13 fun b hb hc => by have := slo1 b hb; have := slo1_hi b hb; have := xlo_rs b hc; have := xlo_rs_hi b hc; omega
  have go0 := Mem.own_only go0 b13 fun b hb hc => by have := glo0 b hb; have := glo0_hi b hb; have := xlo_rs b hc; have := xlo_rs_hi b hc; omega
  have go1 := Mem.own_only go1 b13 fun b hb hc => by have := glo1 b hb; have := glo1_hi b hb; have := xlo_rs b hc; have := xlo_rs_hi b hc; omega
  obtain ⟨B, x0, x1, lx⟩ := BX.out _ k
  rw [← HM_rs.out]
  go_wp2_with fail
  refine (eqTrace_same F0 F1 gA0 gn0 gc0 gA1 gn1 gc1 sA0 sn0 sc0 sA1 sn1 sc1 _ (Mem.own_rd go0) (Mem.own_rd go1) (Mem.own_rd so0) (Mem.own_rd so1) trF.out).mono ?_
  rintro e w14 ⟨rfl, b14⟩
  have sb14 := b14.size
  have k := k.trans (b14.mono k.size)
  have sy0 := cell_below b14 (p := ⟨w3.heap.size, 0, none⟩) sl sy0
  have sy1 := cell_below b14 (p := ⟨w3.heap.size, 1, none⟩) sl sy1
  have gy0 := cell_below b14 (p := ⟨w6.heap.size, 0, none⟩) gl gy0
  have gy1 := cell_below b14 (p := ⟨w6.heap.size, 1, none⟩) gl gy1
  have gl := Nat.lt_of_lt_of_le gl sb14
  have sl := Nat.lt_of_lt_of_le sl sb14
  have so0 := Mem.own_below so0 b14
  have so1 := Mem.own_below so1 b14
  have go0 := Mem.own_below go0 b14
  have go1 := Mem.own_below go1 b14
  obtain ⟨B, x0, x1, lx⟩ := BX.out _ k
  go_wp2_with fail
  refine (markTrace_W F0 F1 gA0 gn0 gc0 gA1 gn1 gc1 gf0 gf1 (1) _ go0 go1 gnd (by omega) (by omega) bS.out (Nat.le_trans bR.out (by omega))).mono ?_
  rintro e w15 ⟨rfl, go0, go1, b15⟩
  have sb15 := b15.size
  have k := k.trans (b15.below (by have := k.size; omega) fun b hb => by have := glo b hb; have := glo_k; omega)
  have sy0 := (World.cell?_of_block (b15.block w3.heap.size sl (fun hc => by have := glo _ hc; have := glo_hi _ hc; omega))).trans sy0
  have sy1 := (World.cell?_of_block (b15.block w3.heap.size sl (fun hc => by have := glo _ hc; have := glo_hi _ hc; omega))).trans sy1
  have gy0 := (World.cell?_of_block (b15.block w6.heap.size gl (fun hc => by have := glo _ hc; have := glo_hi _ hc; omega))).trans gy0
  have gy1 := (World.cell?_of_block (b15.block w6.heap.size gl (fun hc => by have := glo _ hc; have := glo_hi _ hc; omega))).trans gy1
  have gl := Nat.lt_of_lt_of_le gl sb15
  have sl := Nat.lt_of_lt_of_le sl sb15
  have so0 := Mem.own_only so0 b15 fun b hb hc => by have := slo0 b hb; have := slo0_hi b hb; have := glo b hc; have := glo_hi b hc; omega
  have so1 := Mem.own_only so1 b15 fun b hb hc => by have := slo1 b hb; have := slo1_hi b hb; have := glo b hc; have := glo_hi b hc; omega
  obtain ⟨B, x0, x1, lx⟩ := BX.out _ k
  have nq : (1 + (mkII F0 : Int) + (F1.length : Int) != 1 + (mkII F0 : Int) + (F1.length : Int)) = false := by simp
  go_wp2_with fail
  refine (heldTrace_W F0 F1.length gA0 gn0 gc0 gA1 gn1 gc1 (1) _ (Mem.own_rd go0) (Mem.own_rd go1) (by omega) (by omega) bS.out (Nat.le_trans bR.out (by omega))).mono ?_
  rintro e w16 ⟨rfl, b16⟩
  have sb16 := b16.size
  have k := k.trans (b16.mono k.size)
  have sy0 := cell_below b16 (p := ⟨w3.heap.size, 0, none⟩) sl sy0
  have sy1 := cell_below b16 (p := ⟨w3.heap.size, 1, none⟩) sl sy1
  have gy0 := cell_below b16 (p := ⟨w6.heap.size, 0, none⟩) gl gy0
  have gy1 := cell_below b16 (p := ⟨w6.heap.size, 1, none⟩) gl gy1
  have gl := Nat.lt_of_lt_of_le gl sb16
  have sl := Nat.lt_of_lt_of_le sl sb16
  have so0 := Mem.own_below so0 b16
  have so1 := Mem.own_below so1 b16
  have go0 := Mem.own_below go0 b16
  have go1 := Mem.own_below go1 b16
  obtain ⟨B, x0, x1, lx⟩ := BX.out _ k
  have qlo_s_k := k.size
  go_wp2_with fail
  refine (toSystem_any s A_s0 n_s0 c_s0 A_s1 n_s1 c_s1 _ (Mem.rd_on h_s0 B) (Mem.rd_on h_s1 B) fits_s.out).mono ?_
  rintro e w17 ⟨qA_s0, qn_s0, qc_s0, qA_s1, qn_s1, qc_s1, qf_s0, qf_s1, rfl, qo_s0, qo_s1, qnd_s, qlo_s, b17⟩
  have sb17 := b17.size
  have k := k.trans (b17.mono k.size)
  have sy0 := cell_below b17 (p := ⟨w3.heap.size, 0, none⟩) sl sy0
  have sy1 := cell_below b17 (p := ⟨w3.heap.size, 1, none⟩) sl sy1
  have gy0 := cell_below b17 (p := ⟨w6.heap.size, 0, none⟩) gl gy0
  have gy1 := cell_below b17 (p := ⟨w6.heap.size, 1, none⟩) gl gy1
  have gl := Nat.lt_of_lt_of_le gl sb17
  have sl := Nat.lt_of_lt_of_le sl sb17
  have so0 := Mem.own_below so0 b17
  have so1 := Mem.own_below so1 b17
  have go0 := Mem.own_below go0 b17
  have go1 := Mem.own_below go1 b17
  obtain ⟨B, x0, x1, lx⟩ := BX.out _ k
  have qlo_s0 : ∀ b ∈ qf_s0, _ := fun b hb => qlo_s b (List.mem_append_left _ hb)
  have qlo_s0_hi := Mem.own_lt qo_s0
  have qlo_s1 : ∀ b ∈ qf_s1, _ := fun b hb => qlo_s b (List.mem_append_right _ hb)
  have qlo_s1_hi := Mem.own_lt qo_s1
  have qlo_s_hi : ∀ b ∈ qf_s0 ++ qf_s1, _ := fun b hb => (List.mem_append.1 hb).elim (qlo_s0_hi b) (qlo_s1_hi b)
  have qlo_rs_k := k.size
  go_wp2_with fail
  refine (toIntS_M A_rs0 n_rs0 c_rs0 rs _ (Mem.rd_on h_rs0 B) i_rs).mono ?_
  rintro e w18 ⟨qA_rs0, qn_rs0, qc_rs0, qf_rs0, rfl, qo_rs0, qnd_rs, qlo_rs, b18⟩
  have sb18 := b18.size
  have k := k.trans (b18.mono k.size)
  have sy0 := cell_below b18 (p := ⟨w3.heap.size, 0, none⟩) sl sy0
  have sy1 := cell_below b18 (p := ⟨w3.heap.size, 1, none⟩) sl sy1
  have gy0 := cell_below b18 (p := ⟨w6.heap.size, 0, none⟩) gl gy0
  have gy1 := cell_below b18 (p := ⟨w6.heap.size, 1, none⟩) gl gy1
  have gl := Nat.lt_of_lt_of_le gl sb18
  have sl := Nat.lt_of_lt_of_le sl sb18
  have so0 := Mem.own_below so0 b18
  have so1 := Mem.own_below so1 b18
  have go0 := Mem.own_below go0 b18
  have go1 := Mem.own_below go1 b18
  have qo_s0 := Mem.own_below qo_s0 b18
  have qo_s1 := Mem.own_below qo_s1 b18
  obtain ⟨B, x0, x1, lx⟩ := BX.out _ k
  have qlo_rs_hi := Mem.own_lt qo_rs0
  have hlo_k := k.size
  go_wp2_with fail
  refine (CI.out qA_s0 qn_s0 qc_s0 qA_s1 qn_s1 qc_s1 qA_rs0 qn_rs0 qc_rs0  _ (Mem.own_rd qo_s0) (Mem.own_rd qo_s1) (Mem.own_rd qo_rs0)).mono ?_
  rintro e w19 ⟨hA0, hn0, hc0, hA1, hn1, hc1, hf0, hf1, rfl, ho0, ho1, hnd, hlo, b19⟩
  have sb19 := b19.size
  have k := k.trans (b19.mono k.size)
  have sy0 := cell_below b19 (p := ⟨w3.heap.size, 0, none⟩) sl sy0
  have sy1 := cell_below b19 (p := ⟨w3.heap.size, 1, none⟩) sl sy1
  have gy0 := cell_below b19 (p := ⟨w6.heap.size, 0, none⟩) gl gy0
  have gy1 := cell_below b19 (p := ⟨w6.heap.size, 1, none⟩) gl gy1
  have gl := Nat.lt_of_lt_of_le gl sb19
  have sl := Nat.lt_of_lt_of_le sl sb19
  have so0 := Mem.own_below so0 b19
  have so1 := Mem.own_below so1 b19
  have go0 := Mem.own_below go0 b19
  have go1 := Mem.own_below go1 b19
  have qo_s0 := Mem.own_below qo_s0 b19
  have qo_s1 := Mem.own_below qo_s1 b19
  have qo_rs0 := Mem.own_below qo_rs0 b19
  obtain ⟨B, x0, x1, lx⟩ := BX.out _ k
  have hlo0 : ∀ b ∈ hf0, _ := fun b hb => hlo b (List.mem_append_left _ hb)
  have hlo0_k := hlo_k
  have hlo0_hi := Mem.own_lt ho0
  have hlo1 : ∀ b ∈ hf1, _ := fun b hb => hlo b (List.mem_append_right _ hb)
  have hlo1_k := hlo_k
  have hlo1_hi := Mem.own_lt ho1
  have hlo_hi : ∀ b ∈ hf0 ++ hf1, _ := fun b hb => (List.mem_append.1 hb).elim (hlo0_hi b) (hlo1_hi b)
  go_wp2_with fail
  refine (eqTrace_same F0 F1 hA0 hn0 hc0 hA1 hn1 hc1 sA0 sn0 sc0 sA1 sn1 sc1 _ (Mem.rd_on_alloc (Mem.own_rd ho0) _) (Mem.rd_on_alloc (Mem.own_rd ho1) _) (Mem.rd_on_alloc (Mem.own_rd so0) _) (Mem.rd_on_alloc (Mem.own_rd so1) _) trF.out).mono ?_
  rintro e w20 ⟨rfl, b20⟩
  obtain ⟨_, hy0, hy1, hl⟩ := slReplay_box 53 w20 b20
  have zb20 := b20.size; rw [World.size_alloc] at zb20
  have b20 := below_call b20
  have sb20 := b20.size
  have k := k.trans (b20.mono k.size)
  have sy0 := cell_below b20 (p := ⟨w3.heap.size, 0, none⟩) sl sy0
  have sy1 := cell_below b20 (p := ⟨w3.heap.size, 1, none⟩) sl sy1
  have gy0 := cell_below b20 (p := ⟨w6.heap.size, 0, none⟩) gl gy0
  have gy1 := cell_below b20 (p := ⟨w6.heap.size, 1, none⟩) gl gy1
  have gl := Nat.lt_of_lt_of_le gl sb20
  have sl := Nat.lt_of_lt_of_le sl sb20
  have so0 := Mem.own_below so0 b20
  have so1 := Mem.own_below so1 b20
  have go0 := Mem.own_below go0 b20
  have go1 := Mem.own_below go1 b20
  have ho0 := Mem.own_below ho0 b20
  have ho1 := Mem.own_below ho1 b20
  obtain ⟨B, x0, x1, lx⟩ := BX.out _ k
  go_wp2_with fail
  refine (heldTrace_W F0 F1.length gA0 gn0 gc0 gA1 gn1 gc1 (1) _ (Mem.own_rd go0) (Mem.own_rd go1) (by omega) (by omega) bS.out (Nat.le_trans bR.out (by omega))).mono ?_
  rintro e w21 ⟨rfl, b21⟩
  have sb21 := b21.size
  have k := k.trans (b21.mono k.size)
  have sy0 := cell_below b21 (p := ⟨w3.heap.size, 0, none⟩) sl sy0
  have sy1 := cell_below b21 (p := ⟨w3.heap.size, 1, none⟩) sl sy1
  have gy0 := cell_below b21 (p := ⟨w6.heap.size, 0, none⟩) gl gy0
  have gy1 := cell_below b21 (p := ⟨w6.heap.size, 1, none⟩) gl gy1
  have hy0 := cell_below b21 (p := ⟨w19.heap.size, 0, none⟩) hl hy0
  have hy1 := cell_below b21 (p := ⟨w19.heap.size, 1, none⟩) hl hy1
  have gl := Nat.lt_of_lt_of_le gl sb21
  have hl := Nat.lt_of_lt_of_le hl sb21
  have sl := Nat.lt_of_lt_of_le sl sb21
  have so0 := Mem.own_below so0 b21
  have so1 := Mem.own_below so1 b21
  have go0 := Mem.own_below go0 b21
  have go1 := Mem.own_below go1 b21
  have ho0 := Mem.own_below ho0 b21
  have ho1 := Mem.own_below ho1 b21
  obtain ⟨B, x0, x1, lx⟩ := BX.out _ k
  go_wp2
  go_ret
  exact ⟨rfl, B⟩

set_option maxRecDepth 100000 in
theorem slReplay_lifted (os : Os) (started : os.Started) (H : Type) (enc : TypeId × Value → H) :
    ReturnsInHanded {} Try.checked os 10 .any (Rows.fnExactReplaySpec.pre6 enc Try.prog Try.f10 Rows.fnExactReplayRow.domain false) (Rows.fnExactReplaySpec.post enc Try.prog Try.f10 false true false false) := by
  refine returnsInHanded_of_change (C := Try.checked) Try.own started (by kernel_rfl) Try.func10
    (ChangeSpec.witness6 (enc := enc) (C := Try.checked) false ⟨#[], #[.agg #[.slice none 0 0, .slice none 0 0], .slice none 0 0], []⟩ 8 (by kernel_rfl) (by kernel_rfl) (by kernel_rfl) (by kernel_rfl)) ?_
  intro W base args ds gs before hval0 hW hcnd _
  have hval : ∀ (j : Nat) t v, Try.f10.params[j]? = some t → args[j]? = some v → Value.okWide Try.prog W .any base t v := hval0
  have hW' := hW
  have hW2 := hW
  obtain ⟨p, q, hA0, hV, rfl, hfz, hnd⟩ := hW2
  have hA : DataW.TrodAll enc Try.prog W 0 (fun _ => true) true Try.f10.params.toList args.toList ds p := hA0
  rw [Try.params10] at hA hval
  obtain ⟨u0, u1, d0, d1, p0, p1, rfl, rfl, rfl, h0, h1⟩ := trodAll_two hA
  obtain ⟨rfl, rfl⟩ := trodVars_none hV
  have k0 := h0
  obtain ⟨A_s0, n_s0, c_s0, A_s1, n_s1, c_s1, s, rfl, ra0, rb0⟩ := open_system (hval 0 25 u0 rfl rfl) h0
  have k1 := h1
  obtain ⟨A_rs0, n_rs0, c_rs0, rs, rfl, mm1, rr1⟩ := open_intS (hval 1 35 u1 rfl rfl) h1
  clear hA0 hval0
  simp only [List.append_nil] at hW'
  have hlt : ∀ x ∈ p0 ++ p1, x.block < W.heap.size := fun x hx => hW'.lt x (by simpa using hx)
  refine (slReplay_any s rs A_s0 n_s0 c_s0 A_s1 n_s1 c_s1 A_rs0 n_rs0 c_rs0 W ra0 rb0 (rd_ints.2 ⟨mm1, rr1⟩)).mono fun e W' ⟨he, hb⟩ => ?_
  subst he
  exact ⟨_, rfl, post_below (pa := p0 ++ p1) (pv := []) hW' (fun _ _ _ => trodAll_mk1 (shut_bool Try.underlying4 _))
    (fun sp hsp => trodAll_mk2 (WideElems.Trod_stays Try.laidOut (by kernel_rfl) (of_decide_eq_true (by kernel_rfl)) k0 (fun x hx => hb.same (hlt x (by simp [hx]))) (fun x hx => hsp x (by simp [hx]))) (WideElems.Trod_stays Try.laidOut (by kernel_rfl) (of_decide_eq_true (by kernel_rfl)) k1 (fun x hx => hb.same (hlt x (by simp [hx]))) (fun x hx => hsp x (by simp [hx])))) (fun _ _ => rfl) (by simp)
    hb (ok_one (by kernel_rfl) rfl (okWide_bool_mk Try.underlying4 _))⟩

theorem slReplay_holds : Rows.FnExactReplaySaid :=
  OpenClaim.holds_of_wide 10 Try.f10 rfl rfl rfl rfl rfl rfl rfl ⟨rfl, rfl, rfl, rfl, rfl⟩ rfl rfl rfl rfl rfl (by kernel_rfl) Try.func10 (by kernel_rfl)
    (of_decide_eq_true (by kernel_rfl)) (by unfold Func.isWrapper; first | (rw [if_pos (by decide +kernel)]; kernel_rfl) | (rw [if_neg (by decide +kernel)]; exact ⟨rfl, rfl⟩))
    (fun os started H enc _ => slReplay_lifted os started H enc)
end Go.Proofs.Ytpaagplopefklaa
