/- For every input the law FnExactRuleBetween returns true: the function answers as its model, and writes into no argument. -/
import Derived.Test.YtpaagplopefklaaBtw3
import Derived.Test.YtpaagplopefklaaIl
import Derived.Test.YtpaagplopefklaaOpenSy
import Derived.Deep.RegionHeld3
namespace Go.Proofs.Ytpaagplopefklaa
open Go.ChangeShapes Go.WideShapes Go.ChangeAt Go.RowKit

theorem slRuleBetween_box {w : World} {v1 v2 : Value} (t : TypeId) : ∀ W, Below (w.alloc (.cells #[v1, v2] t)).heap.size (w.alloc (.cells #[v1, v2] t)) W →
    Below w.heap.size w W ∧ W.cell? ⟨w.heap.size, 0, none⟩ = some v1 ∧ W.cell? ⟨w.heap.size, 1, none⟩ = some v2 ∧ w.heap.size < W.heap.size :=
  fun W hW => ⟨below_call hW, ((Blk.new w _ _).below hW (by simp)).cell 0, ((Blk.new w _ _).below hW (by simp)).cell 1, by have := hW.size; simp at this; omega⟩

set_option maxRecDepth 100000 in
set_option maxHeartbeats 8000000 in
theorem slRuleBetween_any (s : Sy) (a : List Int) (b : List Int) (A_s0 : Option Addr) (n_s0 c_s0 : Nat) (A_s1 : Option Addr) (n_s1 c_s1 : Nat) (A_a0 : Option Addr) (n_a0 c_a0 : Nat) (A_b0 : Option Addr) (n_b0 c_b0 : Nat) (w : World) (h_s0 : Mem.rd w w.heap.size [.slice A_s0 n_s0 c_s0] s.vars) (h_s1 : Mem.rd w w.heap.size [.slice A_s1 n_s1 c_s1] s.rules) (h_a0 : Mem.rd w w.heap.size [.slice A_a0 n_a0 c_a0] a) (h_b0 : Mem.rd w w.heap.size [.slice A_b0 n_b0 c_b0] b) :
    Calls Try.prog 11 #[.agg #[.slice A_s0 n_s0 c_s0, .slice A_s1 n_s1 c_s1], .slice A_a0 n_a0 c_a0, .slice A_b0 n_b0 c_b0] w (GivesBool w true) := by
  have m_s0 := rd_max h_s0
  have m_s1 := rd_max h_s1
  have m_a0 := rd_max h_a0
  have m_b0 := rd_max h_b0
  unfold maxLen at m_s0 m_s1 m_a0 m_b0
  by_cases big_a : 1048576 < n_a0
  · go_enter Try.func11, Try.ntmps11
    go_wp2
    go_ret
    exact ⟨rfl, by first | exact Below.refl _ _ | exact below_alloc _ _ | exact (below_alloc _ _).trans ((below_alloc _ _).mono (by simp))⟩
  by_cases big_b : 1048576 < n_b0
  · go_enter Try.func11, Try.ntmps11
    go_wp2
    go_ret
    exact ⟨rfl, by first | exact Below.refl _ _ | exact below_alloc _ _ | exact (below_alloc _ _).trans ((below_alloc _ _).mono (by simp))⟩
  by_cases big_s : 1048576 < (szSy s : Int)
  · go_enter Try.func11, Try.ntmps11
    go_wp2_with fail
    refine (szSystem_any s A_s0 n_s0 c_s0 A_s1 n_s1 c_s1 (1048576) _ (Mem.rd_on_alloc h_s0 _) (Mem.rd_on_alloc h_s1 _) (by omega) (by omega)).mono ?_
    rintro e v0 ⟨rfl, bz0⟩
    have k := bz0
    rw [rest_no big_s]
    go_wp2
    go_ret
    exact ⟨rfl, by first | exact Below.refl _ _ | exact below_alloc _ _ | exact below_call k | exact below_call (below_call k) | exact k⟩
  have fits_s := Lib.hid (Sy.fits_of (s := s) (by omega))
  have sz_s : szSy s ≤ 1048576 := by omega
  have i_a : n_a0 ≤ 1048576 := by omega
  have sz_a : a.length ≤ 1048576 := by rw [rd_len h_a0]; exact i_a
  have i_b : n_b0 ≤ 1048576 := by omega
  have sz_b : b.length ≤ 1048576 := by rw [rd_len h_b0]; exact i_b
  have CS := Lib.hid (fun A_s0' n_s0' c_s0' A_s1' n_s1' c_s1' A_a0' n_a0' c_a0' A_b0' n_b0' c_b0' w h_s0' h_s1' h_a0' h_b0' => between_spec s a b A_s0' n_s0' c_s0' A_s1' n_s1' c_s1' A_a0' n_a0' c_a0' A_b0' n_b0' c_b0' w h_s0' h_s1' h_a0' h_b0')
  have CI := Lib.hid (fun A_s0' n_s0' c_s0' A_s1' n_s1' c_s1' A_a0' n_a0' c_a0' A_b0' n_b0' c_b0' w h_s0' h_s1' h_a0' h_b0' => between_impl s a b A_s0' n_s0' c_s0' A_s1' n_s1' c_s1' A_a0' n_a0' c_a0' A_b0' n_b0' c_b0' w h_s0' h_s1' h_a0' h_b0')
  generalize ruleBtw s a b = F0 at CS CI
  have nz0 : (F0 != F0) = false := by simp
  have BX := Lib.hid (slRuleBetween_box (w := w) (v1 := .slice A_s0 n_s0 c_s0) (v2 := .slice A_s1 n_s1 c_s1) 25)
  go_enter Try.func11, Try.ntmps11
  go_wp2_with fail
  refine (szSystem_any s A_s0 n_s0 c_s0 A_s1 n_s1 c_s1 (1048576) _ (Mem.rd_on_alloc h_s0 _) (Mem.rd_on_alloc h_s1 _) (by omega) (by omega)).mono ?_
  rintro e v0 ⟨rfl, bz0⟩
  have k := bz0
  rw [rest_yes (by omega)]
  skip
  obtain ⟨B, x0, x1, lx⟩ := BX.out _ k
  have plo_s_k := k.size
  go_wp2_with fail
  refine (toSystem_any s A_s0 n_s0 c_s0 A_s1 n_s1 c_s1 _ (Mem.rd_on h_s0 B) (Mem.rd_on h_s1 B) fits_s.out).mono ?_
  rintro e w1 ⟨pA_s0, pn_s0, pc_s0, pA_s1, pn_s1, pc_s1, pf_s0, pf_s1, rfl, po_s0, po_s1, pnd_s, plo_s, b1⟩
  have sb1 := b1.size
  have k := k.trans (b1.mono k.size)
  obtain ⟨B, x0, x1, lx⟩ := BX.out _ k
  have plo_s0 : ∀ b ∈ pf_s0, _ := fun b hb => plo_s b (List.mem_append_left _ hb)
  have plo_s0_hi := Mem.own_lt po_s0
  have plo_s1 : ∀ b ∈ pf_s1, _ := fun b hb => plo_s b (List.mem_append_right _ hb)
  have plo_s1_hi := Mem.own_lt po_s1
  have plo_s_hi : ∀ b ∈ pf_s0 ++ pf_s1, _ := fun b hb => (List.mem_append.1 hb).elim (plo_s0_hi b) (plo_s1_hi b)
  have plo_a_k := k.size
  go_wp2_with fail
  refine (toIntS_M A_a0 n_a0 c_a0 a _ (Mem.rd_on h_a0 B) i_a).mono ?_
  rintro e w2 ⟨pA_a0, pn_a0, pc_a0, pf_a0, rfl, po_a0, pnd_a, plo_a, b2⟩
  have sb2 := b2.size
  have k := k.trans (b2.mono k.size)
  have po_s0 := Mem.own_below po_s0 b2
  have po_s1 := Mem.own_below po_s1 b2
  obtain ⟨B, x0, x1, lx⟩ := BX.out _ k
  have plo_a_hi := Mem.own_lt po_a0
  have plo_b_k := k.size
  go_wp2_with fail
  refine (toIntS_M A_b0 n_b0 c_b0 b _ (Mem.rd_on h_b0 B) i_b).mono ?_
  rintro e w3 ⟨pA_b0, pn_b0, pc_b0, pf_b0, rfl, po_b0, pnd_b, plo_b, b3⟩
  have sb3 := b3.size
  have k := k.trans (b3.mono k.size)
  have po_s0 := Mem.own_below po_s0 b3
  have po_s1 := Mem.own_below po_s1 b3
  have po_a0 := Mem.own_below po_a0 b3
  obtain ⟨B, x0, x1, lx⟩ := BX.out _ k
  have plo_b_hi := Mem.own_lt po_b0
  go_wp2_with fail
  refine (CS.out pA_s0 pn_s0 pc_s0 pA_s1 pn_s1 pc_s1 pA_a0 pn_a0 pc_a0 pA_b0 pn_b0 pc_b0  _ (Mem.own_rd po_s0) (Mem.own_rd po_s1) (Mem.own_rd po_a0) (Mem.own_rd po_b0)).mono ?_
  rintro e w4 ⟨rfl, b4⟩
  have sb4 := b4.size
  have k := k.trans (b4.mono k.size)
  have po_s0 := Mem.own_below po_s0 b4
  have po_s1 := Mem.own_below po_s1 b4
  have po_a0 := Mem.own_below po_a0 b4
  have po_b0 := Mem.own_below po_b0 b4
  obtain ⟨B, x0, x1, lx⟩ := BX.out _ k
  have xlo_s_k := k.size
  go_wp2_with fail
  refine (toSystem_any s A_s0 n_s0 c_s0 A_s1 n_s1 c_s1 _ (Mem.rd_on h_s0 B) (Mem.rd_on h_s1 B) fits_s.out).mono ?_
  rintro e w5 ⟨xA_s0, xn_s0, xc_s0, xA_s1, xn_s1, xc_s1, xf_s0, xf_s1, rfl, xo_s0, xo_s1, xnd_s, xlo_s, b5⟩
  have sb5 := b5.size
  have k := k.trans (b5.mono k.size)
  obtain ⟨B, x0, x1, lx⟩ := BX.out _ k
  have xlo_s0 : ∀ b ∈ xf_s0, _ := fun b hb => xlo_s b (List.mem_append_left _ hb)
  have xlo_s0_hi := Mem.own_lt xo_s0
  have xlo_s1 : ∀ b ∈ xf_s1, _ := fun b hb => xlo_s b (List.mem_append_right _ hb)
  have xlo_s1_hi := Mem.own_lt xo_s1
  have xlo_s_hi : ∀ b ∈ xf_s0 ++ xf_s1, _ := fun b hb => (List.mem_append.1 hb).elim (xlo_s0_hi b) (xlo_s1_hi b)
  have xlo_a_k := k.size
  go_wp2_with fail
  refine (toIntS_M A_a0 n_a0 c_a0 a _ (Mem.rd_on_alloc (Mem.rd_on h_a0 B) _) i_a).mono ?_
  rintro e w6 ⟨xA_a0, xn_a0, xc_a0, xf_a0, rfl, xo_a0, xnd_a, xlo_a, b6⟩
  obtain ⟨_, xy_s0, xy_s1, xl_s⟩ := slRuleBetween_box 31 w6 b6
  have zb6 := b6.size; rw [World.size_alloc] at zb6
  have b6 := below_call b6
  have sb6 := b6.size
  have k := k.trans (b6.mono k.size)
  have xo_s0 := Mem.own_below xo_s0 b6
  have xo_s1 := Mem.own_below xo_s1 b6
  obtain ⟨B, x0, x1, lx⟩ := BX.out _ k
  simp only [World.size_alloc] at xlo_a
  have xlo_a_hi := Mem.own_lt xo_a0
  have xlo_b_k := k.size
  go_wp2_with fail
  refine (toIntS_M A_b0 n_b0 c_b0 b _ (Mem.rd_on h_b0 B) i_b).mono ?_
  rintro e w7 ⟨xA_b0, xn_b0, xc_b0, xf_b0, rfl, xo_b0, xnd_b, xlo_b, b7⟩
  have sb7 := b7.size
  have k := k.trans (b7.mono k.size)
  have xy_s0 := cell_below b7 (p := ⟨w5.heap.size, 0, none⟩) xl_s xy_s0
  have xy_s1 := cell_below b7 (p := ⟨w5.heap.size, 1, none⟩) xl_s xy_s1
  have xl_s := Nat.lt_of_lt_of_le xl_s sb7
  have xo_s0 := Mem.own_below xo_s0 b7
  have xo_s1 := Mem.own_below xo_s1 b7
  have xo_a0 := Mem.own_below xo_a0 b7
  obtain ⟨B, x0, x1, lx⟩ := BX.out _ k
  have xlo_b_hi := Mem.own_lt xo_b0
  go_wp2_with fail
  refine (CI.out xA_s0 xn_s0 xc_s0 xA_s1 xn_s1 xc_s1 xA_a0 xn_a0 xc_a0 xA_b0 xn_b0 xc_b0  _ (Mem.own_rd xo_s0) (Mem.own_rd xo_s1) (Mem.own_rd xo_a0) (Mem.own_rd xo_b0)).mono ?_
  rintro e w8 ⟨rfl, b8⟩
  have sb8 := b8.size
  have k := k.trans (b8.mono k.size)
  have xy_s0 := cell_below b8 (p := ⟨w5.heap.size, 0, none⟩) xl_s xy_s0
  have xy_s1 := cell_below b8 (p := ⟨w5.heap.size, 1, none⟩) xl_s xy_s1
  have xl_s := Nat.lt_of_lt_of_le xl_s sb8
  have xo_s0 := Mem.own_below xo_s0 b8
  have xo_s1 := Mem.own_below xo_s1 b8
  have xo_a0 := Mem.own_below xo_a0 b8
  have xo_b0 := Mem.own_below xo_b0 b8
  obtain ⟨B, x0, x1, lx⟩ := BX.out _ k
  have r0_ := Mem.own_rd xo_s0
  have r1_ := Mem.own_rd xo_s1
  go_wp2
  go_region_held3 (fun w' => w'.cell? ⟨w.heap.size, 0, none⟩ = some (.slice A_s0 n_s0 c_s0) ∧ w'.cell? ⟨w.heap.size, 1, none⟩ = some (.slice A_s1 n_s1 c_s1) ∧ w'.cell? ⟨w5.heap.size, 0, none⟩ = some (.slice xA_s0 xn_s0 xc_s0) ∧ w'.cell? ⟨w5.heap.size, 1, none⟩ = some (.slice xA_s1 xn_s1 xc_s1)) (go_keep)
    (first
      | (go_at_call 14; refine (toSystem_any s A_s0 n_s0 c_s0 A_s1 n_s1 c_s1 w8.drew (Mem.rd_drew (Mem.rd_on h_s0 B)) (Mem.rd_drew (Mem.rd_on h_s1 B)) fits_s.out).mono ?_; rintro e w9 ⟨R1, g1, j1, R2, g2, j2, q5, q6, rfl, u5, u6, _, _, b9⟩
         have z0 := cell_below b9 (p := ⟨w.heap.size, 0, none⟩) lx x0
         have z1 := cell_below b9 (p := ⟨w.heap.size, 1, none⟩) lx x1
         have z2 := cell_below b9 (p := ⟨w5.heap.size, 0, none⟩) xl_s xy_s0
         have z3 := cell_below b9 (p := ⟨w5.heap.size, 1, none⟩) xl_s xy_s1
         have l7 := Nat.lt_of_lt_of_le lx b9.size
         have m7 := Nat.lt_of_lt_of_le xl_s b9.size)
      | (go_at_call 16; refine (eqSystem_same s xA_s0 xn_s0 xc_s0 xA_s1 xn_s1 xc_s1 R1 g1 j1 R2 g2 j2 _ (Mem.rd_on (Mem.rd_drew r0_) b9) (Mem.rd_on (Mem.rd_drew r1_) b9) (Mem.own_rd u5) (Mem.own_rd u6) fits_s.out).mono ?_; rintro e w10 ⟨rfl, b10⟩
         have z0 := cell_below b10 (p := ⟨w.heap.size, 0, none⟩) l7 z0
         have z1 := cell_below b10 (p := ⟨w.heap.size, 1, none⟩) l7 z1
         have z2 := cell_below b10 (p := ⟨w5.heap.size, 0, none⟩) m7 z2
         have z3 := cell_below b10 (p := ⟨w5.heap.size, 1, none⟩) m7 z3))
  have b10 := (show Below w8.heap.size w8 w9 from ⟨b9.os, b9.tape, b9.output, b9.size, b9.block⟩).trans (b10.mono b9.size)
  clear r0_ r1_
  have sb10 := b10.size
  have k := k.trans (b10.mono k.size)
  have xy_s0 := cell_below b10 (p := ⟨w5.heap.size, 0, none⟩) xl_s xy_s0
  have xy_s1 := cell_below b10 (p := ⟨w5.heap.size, 1, none⟩) xl_s xy_s1
  have xl_s := Nat.lt_of_lt_of_le xl_s sb10
  have xo_s0 := Mem.own_below xo_s0 b10
  have xo_s1 := Mem.own_below xo_s1 b10
  have xo_a0 := Mem.own_below xo_a0 b10
  have xo_b0 := Mem.own_below xo_b0 b10
  obtain ⟨B, x0, x1, lx⟩ := BX.out _ k
  have elo_a_k := k.size
  go_wp2_with fail
  refine (toIntS_M A_a0 n_a0 c_a0 a _ (Mem.rd_on h_a0 B) i_a).mono ?_
  rintro e w11 ⟨eA_a0, en_a0, ec_a0, ef_a0, rfl, eo_a0, end_a, elo_a, b11⟩
  have sb11 := b11.size
  have k := k.trans (b11.mono k.size)
  have xy_s0 := cell_below b11 (p := ⟨w5.heap.size, 0, none⟩) xl_s xy_s0
  have xy_s1 := cell_below b11 (p := ⟨w5.heap.size, 1, none⟩) xl_s xy_s1
  have xl_s := Nat.lt_of_lt_of_le xl_s sb11
  have xo_s0 := Mem.own_below xo_s0 b11
  have xo_s1 := Mem.own_below xo_s1 b11
  have xo_a0 := Mem.own_below xo_a0 b11
  have xo_b0 := Mem.own_below xo_b0 b11
  obtain ⟨B, x0, x1, lx⟩ := BX.out _ k
  have elo_a_hi := Mem.own_lt eo_a0
  go_wp2_with fail
  refine (eqIntS_M xA_a0 eA_a0 xn_a0 xc_a0 en_a0 ec_a0 a _ (Mem.own_rd xo_a0) (Mem.own_rd eo_a0)).mono ?_
  rintro e w12 ⟨rfl, b12⟩
  have sb12 := b12.size
  have k := k.trans (b12.mono k.size)
  have xy_s0 := cell_below b12 (p := ⟨w5.heap.size, 0, none⟩) xl_s xy_s0
  have xy_s1 := cell_below b12 (p := ⟨w5.heap.size, 1, none⟩) xl_s xy_s1
  have xl_s := Nat.lt_of_lt_of_le xl_s sb12
  have xo_s0 := Mem.own_below xo_s0 b12
  have xo_s1 := Mem.own_below xo_s1 b12
  have xo_a0 := Mem.own_below xo_a0 b12
  have xo_b0 := Mem.own_below xo_b0 b12
  have eo_a0 := Mem.own_below eo_a0 b12
  obtain ⟨B, x0, x1, lx⟩ := BX.out _ k
  have elo_b_k := k.size
  go_wp2_with fail
  refine (toIntS_M A_b0 n_b0 c_b0 b _ (Mem.rd_on h_b0 B) i_b).mono ?_
  rintro e w13 ⟨eA_b0, en_b0, ec_b0, ef_b0, rfl, eo_b0, end_b, elo_b, b13⟩
  have sb13 := b13.size
  have k := k.trans (b13.mono k.size)
  have xy_s0 := cell_below b13 (p := ⟨w5.heap.size, 0, none⟩) xl_s xy_s0
  have xy_s1 := cell_below b13 (p := ⟨w5.heap.size, 1, none⟩) xl_s xy_s1
  have xl_s := Nat.lt_of_lt_of_le xl_s sb13
  have xo_s0 := Mem.own_below xo_s0 b13
  have xo_s1 := Mem.own_below xo_s1 b13
  have xo_a0 := Mem.own_below xo_a0 b13
  have xo_b0 := Mem.own_below xo_b0 b13
  obtain ⟨B, x0, x1, lx⟩ := BX.out _ k
  have elo_b_hi := Mem.own_lt eo_b0
  go_wp2_with fail
  refine (eqIntS_M xA_b0 eA_b0 xn_b0 xc_b0 en_b0 ec_b0 b _ (Mem.own_rd xo_b0) (Mem.own_rd eo_b0)).mono ?_
  rintro e w14 ⟨rfl, b14⟩
  have sb14 := b14.size
  have k := k.trans (b14.mono k.size)
  have xy_s0 := cell_below b14 (p := ⟨w5.heap.size, 0, none⟩) xl_s xy_s0
  have xy_s1 := cell_below b14 (p := ⟨w5.heap.size, 1, none⟩) xl_s xy_s1
  have xl_s := Nat.lt_of_lt_of_le xl_s sb14
  have xo_s0 := Mem.own_below xo_s0 b14
  have xo_s1 := Mem.own_below xo_s1 b14
  have xo_a0 := Mem.own_below xo_a0 b14
  have xo_b0 := Mem.own_below xo_b0 b14
  have eo_b0 := Mem.own_below eo_b0 b14
  obtain ⟨B, x0, x1, lx⟩ := BX.out _ k
  go_wp2
  go_ret
  exact ⟨rfl, B⟩

set_option maxRecDepth 100000 in
theorem slRuleBetween_lifted (os : Os) (started : os.Started) (H : Type) (enc : TypeId × Value → H) :
    ReturnsInHanded {} Try.checked os 11 .any (Rows.fnExactRuleBetweenSpec.pre6 enc Try.prog Try.f11 Rows.fnExactRuleBetweenRow.domain false) (Rows.fnExactRuleBetweenSpec.post enc Try.prog Try.f11 false true false false) := by
  refine returnsInHanded_of_change (C := Try.checked) Try.own started (by kernel_rfl) Try.func11
    (ChangeSpec.witness6 (enc := enc) (C := Try.checked) false ⟨#[], #[.agg #[.slice none 0 0, .slice none 0 0], .slice none 0 0, .slice none 0 0], []⟩ 8 (by kernel_rfl) (by kernel_rfl) (by kernel_rfl) (by kernel_rfl)) ?_
  intro W base args ds gs before hval0 hW hcnd _
  have hval : ∀ (j : Nat) t v, Try.f11.params[j]? = some t → args[j]? = some v → Value.okWide Try.prog W .any base t v := hval0
  have hW' := hW
  have hW2 := hW
  obtain ⟨p, q, hA0, hV, rfl, hfz, hnd⟩ := hW2
  have hA : DataW.TrodAll enc Try.prog W 0 (fun _ => true) true Try.f11.params.toList args.toList ds p := hA0
  rw [Try.params11] at hA hval
  obtain ⟨u0, u1, u2, d0, d1, d2, p0, p1, p2, rfl, rfl, rfl, h0, h1, h2⟩ := trodAll_three hA
  obtain ⟨rfl, rfl⟩ := trodVars_none hV
  have k0 := h0
  obtain ⟨A_s0, n_s0, c_s0, A_s1, n_s1, c_s1, s, rfl, ra0, rb0⟩ := open_system (hval 0 25 u0 rfl rfl) h0
  have k1 := h1
  obtain ⟨A_a0, n_a0, c_a0, a, rfl, mm1, rr1⟩ := open_intS (hval 1 35 u1 rfl rfl) h1
  have k2 := h2
  obtain ⟨A_b0, n_b0, c_b0, b, rfl, mm2, rr2⟩ := open_intS (hval 2 35 u2 rfl rfl) h2
  clear hA0 hval0
  simp only [List.append_nil] at hW'
  have hlt : ∀ x ∈ p0 ++ p1 ++ p2, x.block < W.heap.size := fun x hx => hW'.lt x (by simpa using hx)
  refine (slRuleBetween_any s a b A_s0 n_s0 c_s0 A_s1 n_s1 c_s1 A_a0 n_a0 c_a0 A_b0 n_b0 c_b0 W ra0 rb0 (rd_ints.2 ⟨mm1, rr1⟩) (rd_ints.2 ⟨mm2, rr2⟩)).mono fun e W' ⟨he, hb⟩ => ?_
  subst he
  exact ⟨_, rfl, post_below (pa := p0 ++ (p1 ++ p2)) (pv := []) hW' (fun _ _ _ => trodAll_mk1 (shut_bool Try.underlying4 _))
    (fun sp hsp => trodAll_mk3 (WideElems.Trod_stays Try.laidOut (by kernel_rfl) (of_decide_eq_true (by kernel_rfl)) k0 (fun x hx => hb.same (hlt x (by simp [hx]))) (fun x hx => hsp x (by simp [hx]))) (WideElems.Trod_stays Try.laidOut (by kernel_rfl) (of_decide_eq_true (by kernel_rfl)) k1 (fun x hx => hb.same (hlt x (by simp [hx]))) (fun x hx => hsp x (by simp [hx]))) (WideElems.Trod_stays Try.laidOut (by kernel_rfl) (of_decide_eq_true (by kernel_rfl)) k2 (fun x hx => hb.same (hlt x (by simp [hx]))) (fun x hx => hsp x (by simp [hx])))) (fun _ _ => rfl) (by simp)
    hb (ok_one (by kernel_rfl) rfl (okWide_bool_mk Try.underlying4 _))⟩

theorem slRuleBetween_holds : Rows.FnExactRuleBetweenSaid :=
  OpenClaim.holds_of_wide 11 Try.f11 rfl rfl rfl rfl rfl rfl rfl ⟨rfl, rfl, rfl, rfl, rfl⟩ rfl rfl rfl rfl rfl (by kernel_rfl) Try.func11 (by kernel_rfl)
    (of_decide_eq_true (by kernel_rfl)) (by unfold Func.isWrapper; first | (rw [if_pos (by decide +kernel)]; kernel_rfl) | (rw [if_neg (by decide +kernel)]; exact ⟨rfl, rfl⟩))
    (fun os started H enc _ => slRuleBetween_lifted os started H enc)
end Go.Proofs.Ytpaagplopefklaa
