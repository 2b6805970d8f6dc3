/- For every input the law FnExactAlways returns true: the function answers as its model, and writes into no argument. -/
import Derived.Test.YtfgjogmgcamfdaaGreatDoorAlw
import Derived.Test.YtfgjogmgcamfdaaGreatDoorDoor
import Derived.Test.YtfgjogmgcamfdaaGreatDoorIl
import Derived.Test.YtfgjogmgcamfdaaGreatDoorEqSy
import Derived.Test.YtfgjogmgcamfdaaGreatDoorOpenSy
import Derived.Test.YtfgjogmgcamfdaaGreatDoorOpenSy
import Derived.Deep.RegionHeld3
namespace Go.Proofs.YtfgjogmgcamfdaaGreatDoor
open Go.ChangeShapes Go.WideShapes Go.ChangeAt Go.RowKit

theorem slAlways_box {w : World} {v1 v2 : Value} (t : TypeId) : ∀ W, Below (w.alloc (.cells #[v1, v2] t)).heap.size (w.alloc (.cells #[v1, v2] t)) W →
    Below w.heap.size w W ∧ W.cell? ⟨w.heap.size, 0, none⟩ = some v1 ∧ W.cell? ⟨w.heap.size, 1, none⟩ = some v2 ∧ w.heap.size < W.heap.size :=
  fun W hW => ⟨below_call hW, ((Blk.new w _ _).below hW (by simp)).cell 0, ((Blk.new w _ _).below hW (by simp)).cell 1, by have := hW.size; simp at this; omega⟩

set_option maxRecDepth 100000 in
set_option maxHeartbeats 8000000 in
theorem slAlways_any (s : Sy) (e : List Tm) (A_s0 : Option Addr) (n_s0 c_s0 : Nat) (A_s1 : Option Addr) (n_s1 c_s1 : Nat) (A_e0 : Option Addr) (n_e0 c_e0 : Nat) (w : World) (h_s0 : Mem.rd w w.heap.size [.slice A_s0 n_s0 c_s0] s.vars) (h_s1 : Mem.rd w w.heap.size [.slice A_s1 n_s1 c_s1] s.rules) (h_e0 : Mem.rd w w.heap.size [.slice A_e0 n_e0 c_e0] e) (hT : DoorAt w) :
    Calls Tryz.prog 4 #[.agg #[.slice A_s0 n_s0 c_s0, .slice A_s1 n_s1 c_s1], .slice A_e0 n_e0 c_e0] w (GivesBool w true) := by
  have m_s0 := rd_max h_s0
  have m_s1 := rd_max h_s1
  have m_e0 := rd_max h_e0
  unfold maxLen at m_s0 m_s1 m_e0
  by_cases big_s : 1048576 < (szSy s : Int)
  · go_enter Tryz.func4, Tryz.ntmps4
    go_wp2_with fail
    refine (szSystem_any s A_s0 n_s0 c_s0 A_s1 n_s1 c_s1 (1048576) _ (Mem.rd_on_alloc h_s0 _) (Mem.rd_on_alloc h_s1 _) (by omega) (by omega)).mono ?_
    rintro e v0 ⟨rfl, bz0⟩
    have k := bz0
    rw [rest_no big_s]
    go_wp2
    go_ret
    exact ⟨rfl, by first | exact Below.refl _ _ | exact below_alloc _ _ | exact below_call k | exact below_call (below_call k) | exact k⟩
  by_cases big_e : 1048576 - (szSy s : Int) < (n_e0 : Int)
  · go_enter Tryz.func4, Tryz.ntmps4
    go_wp2_with fail
    refine (szSystem_any s A_s0 n_s0 c_s0 A_s1 n_s1 c_s1 (1048576) _ (Mem.rd_on_alloc h_s0 _) (Mem.rd_on_alloc h_s1 _) (by omega) (by omega)).mono ?_
    rintro e v0 ⟨rfl, bz0⟩
    have k := bz0
    rw [rest_yes (by omega)]
    go_wp2_with fail
    refine (szTermS_M A_e0 n_e0 c_e0 (1048576 - (szSy s : Int)) (rd_max h_e0) (by omega) (by omega) _).mono ?_
    rintro e v1 ⟨rfl, hw⟩
    subst hw
    rw [rest_no big_e]
    go_wp2
    go_ret
    exact ⟨rfl, by first | exact Below.refl _ _ | exact below_alloc _ _ | exact below_call k | exact below_call (below_call k) | exact k⟩
  have fits_s := Lib.hid (Sy.fits_of (s := s) (by omega))
  have sz_s : szSy s ≤ 1048576 := by omega
  have i_e : n_e0 ≤ 1048576 := by omega
  have sz_e : e.length ≤ 1048576 := by rw [rd_len h_e0]; exact i_e
  have CS := Lib.hid (fun A_s0' n_s0' c_s0' A_s1' n_s1' c_s1' A_e0' n_e0' c_e0' w h_s0' h_s1' h_e0' => always_spec s e A_s0' n_s0' c_s0' A_s1' n_s1' c_s1' A_e0' n_e0' c_e0' w h_s0' h_s1' h_e0')
  have CI := Lib.hid (fun A_s0' n_s0' c_s0' A_s1' n_s1' c_s1' A_e0' n_e0' c_e0' w h_s0' h_s1' h_e0' (hT : DoorAt w) => always_impl s e A_s0' n_s0' c_s0' A_s1' n_s1' c_s1' A_e0' n_e0' c_e0' w h_s0' h_s1' h_e0' hT)
  have HT := Lib.hid hT
  clear hT
  generalize alwaysB s e = F0 at CS CI
  have nz0 : (F0 != F0) = false := by simp
  have BX := Lib.hid (slAlways_box (w := w) (v1 := .slice A_s0 n_s0 c_s0) (v2 := .slice A_s1 n_s1 c_s1) 25)
  go_enter Tryz.func4, Tryz.ntmps4
  go_wp2_with fail
  refine (szSystem_any s A_s0 n_s0 c_s0 A_s1 n_s1 c_s1 (1048576) _ (Mem.rd_on_alloc h_s0 _) (Mem.rd_on_alloc h_s1 _) (by omega) (by omega)).mono ?_
  rintro e v0 ⟨rfl, bz0⟩
  have k := bz0
  rw [rest_yes (by omega)]
  go_wp2_with fail
  refine (szTermS_M A_e0 n_e0 c_e0 (1048576 - (szSy s : Int)) (rd_max h_e0) (by omega) (by omega) _).mono ?_
  rintro e v1 ⟨rfl, hw⟩
  subst hw
  rw [rest_yes (by omega)]
  skip
  obtain ⟨B, x0, x1, lx⟩ := BX.out _ k
  have plo_s_k := k.size
  go_wp2_with fail
  refine (toSystem_any s A_s0 n_s0 c_s0 A_s1 n_s1 c_s1 _ (Mem.rd_on h_s0 B) (Mem.rd_on h_s1 B) fits_s.out).mono ?_
  rintro e w1 ⟨pA_s0, pn_s0, pc_s0, pA_s1, pn_s1, pc_s1, pf_s0, pf_s1, rfl, po_s0, po_s1, pnd_s, plo_s, b1⟩
  have sb1 := b1.size
  have k := k.trans (b1.mono k.size)
  obtain ⟨B, x0, x1, lx⟩ := BX.out _ k
  have plo_s0 : ∀ b ∈ pf_s0, _ := fun b hb => plo_s b (List.mem_append_left _ hb)
  have plo_s0_hi := Mem.own_lt po_s0
  have plo_s1 : ∀ b ∈ pf_s1, _ := fun b hb => plo_s b (List.mem_append_right _ hb)
  have plo_s1_hi := Mem.own_lt po_s1
  have plo_s_hi : ∀ b ∈ pf_s0 ++ pf_s1, _ := fun b hb => (List.mem_append.1 hb).elim (plo_s0_hi b) (plo_s1_hi b)
  have plo_e_k := k.size
  go_wp2_with fail
  refine (toTermS_M A_e0 n_e0 c_e0 e _ (Mem.rd_on h_e0 B) i_e).mono ?_
  rintro e w2 ⟨pA_e0, pn_e0, pc_e0, pf_e0, rfl, po_e0, pnd_e, plo_e, b2⟩
  have sb2 := b2.size
  have k := k.trans (b2.mono k.size)
  have po_s0 := Mem.own_below po_s0 b2
  have po_s1 := Mem.own_below po_s1 b2
  obtain ⟨B, x0, x1, lx⟩ := BX.out _ k
  have plo_e_hi := Mem.own_lt po_e0
  go_wp2_with fail
  refine (CS.out pA_s0 pn_s0 pc_s0 pA_s1 pn_s1 pc_s1 pA_e0 pn_e0 pc_e0  _ (Mem.own_rd po_s0) (Mem.own_rd po_s1) (Mem.own_rd po_e0)).mono ?_
  rintro e w3 ⟨rfl, b3⟩
  have sb3 := b3.size
  have k := k.trans (b3.mono k.size)
  have po_s0 := Mem.own_below po_s0 b3
  have po_s1 := Mem.own_below po_s1 b3
  have po_e0 := Mem.own_below po_e0 b3
  obtain ⟨B, x0, x1, lx⟩ := BX.out _ k
  have xlo_s_k := k.size
  go_wp2_with fail
  refine (toSystem_any s A_s0 n_s0 c_s0 A_s1 n_s1 c_s1 _ (Mem.rd_on h_s0 B) (Mem.rd_on h_s1 B) fits_s.out).mono ?_
  rintro e w4 ⟨xA_s0, xn_s0, xc_s0, xA_s1, xn_s1, xc_s1, xf_s0, xf_s1, rfl, xo_s0, xo_s1, xnd_s, xlo_s, b4⟩
  have sb4 := b4.size
  have k := k.trans (b4.mono k.size)
  obtain ⟨B, x0, x1, lx⟩ := BX.out _ k
  have xlo_s0 : ∀ b ∈ xf_s0, _ := fun b hb => xlo_s b (List.mem_append_left _ hb)
  have xlo_s0_hi := Mem.own_lt xo_s0
  have xlo_s1 : ∀ b ∈ xf_s1, _ := fun b hb => xlo_s b (List.mem_append_right _ hb)
  have xlo_s1_hi := Mem.own_lt xo_s1
  have xlo_s_hi : ∀ b ∈ xf_s0 ++ xf_s1, _ := fun b hb => (List.mem_append.1 hb).elim (xlo_s0_hi b) (xlo_s1_hi b)
  have xlo_e_k := k.size
  go_wp2_with fail
  refine (toTermS_M A_e0 n_e0 c_e0 e _ (Mem.rd_on_alloc (Mem.rd_on h_e0 B) _) i_e).mono ?_
  rintro e w5 ⟨xA_e0, xn_e0, xc_e0, xf_e0, rfl, xo_e0, xnd_e, xlo_e, b5⟩
  obtain ⟨_, xy_s0, xy_s1, xl_s⟩ := slAlways_box 32 w5 b5
  have zb5 := b5.size; rw [World.size_alloc] at zb5
  have b5 := below_call b5
  have sb5 := b5.size
  have k := k.trans (b5.mono k.size)
  have xo_s0 := Mem.own_below xo_s0 b5
  have xo_s1 := Mem.own_below xo_s1 b5
  obtain ⟨B, x0, x1, lx⟩ := BX.out _ k
  simp only [World.size_alloc] at xlo_e
  have xlo_e_hi := Mem.own_lt xo_e0
  go_wp2_with fail
  refine (CI.out xA_s0 xn_s0 xc_s0 xA_s1 xn_s1 xc_s1 xA_e0 xn_e0 xc_e0  _ (Mem.own_rd xo_s0) (Mem.own_rd xo_s1) (Mem.own_rd xo_e0) (HT.out.on B)).mono ?_
  rintro e w6 ⟨rfl, b6⟩
  have sb6 := b6.size
  have k := k.trans (b6.mono k.size)
  have xy_s0 := cell_below b6 (p := ⟨w4.heap.size, 0, none⟩) xl_s xy_s0
  have xy_s1 := cell_below b6 (p := ⟨w4.heap.size, 1, none⟩) xl_s xy_s1
  have xl_s := Nat.lt_of_lt_of_le xl_s sb6
  have xo_s0 := Mem.own_below xo_s0 b6
  have xo_s1 := Mem.own_below xo_s1 b6
  have xo_e0 := Mem.own_below xo_e0 b6
  obtain ⟨B, x0, x1, lx⟩ := BX.out _ k
  have r0_ := Mem.own_rd xo_s0
  have r1_ := Mem.own_rd xo_s1
  go_wp2
  go_region_held3 (fun w' => w'.cell? ⟨w.heap.size, 0, none⟩ = some (.slice A_s0 n_s0 c_s0) ∧ w'.cell? ⟨w.heap.size, 1, none⟩ = some (.slice A_s1 n_s1 c_s1) ∧ w'.cell? ⟨w4.heap.size, 0, none⟩ = some (.slice xA_s0 xn_s0 xc_s0) ∧ w'.cell? ⟨w4.heap.size, 1, none⟩ = some (.slice xA_s1 xn_s1 xc_s1)) (go_keep)
    (first
      | (go_at_call 10; refine (toSystem_any s A_s0 n_s0 c_s0 A_s1 n_s1 c_s1 w6.drew (Mem.rd_drew (Mem.rd_on h_s0 B)) (Mem.rd_drew (Mem.rd_on h_s1 B)) fits_s.out).mono ?_; rintro e w7 ⟨R1, g1, j1, R2, g2, j2, q5, q6, rfl, u5, u6, _, _, b7⟩
         have z0 := cell_below b7 (p := ⟨w.heap.size, 0, none⟩) lx x0
         have z1 := cell_below b7 (p := ⟨w.heap.size, 1, none⟩) lx x1
         have z2 := cell_below b7 (p := ⟨w4.heap.size, 0, none⟩) xl_s xy_s0
         have z3 := cell_below b7 (p := ⟨w4.heap.size, 1, none⟩) xl_s xy_s1
         have l7 := Nat.lt_of_lt_of_le lx b7.size
         have m7 := Nat.lt_of_lt_of_le xl_s b7.size)
      | (go_at_call 13; refine (eqSystem_same s xA_s0 xn_s0 xc_s0 xA_s1 xn_s1 xc_s1 R1 g1 j1 R2 g2 j2 _ (Mem.rd_on (Mem.rd_drew r0_) b7) (Mem.rd_on (Mem.rd_drew r1_) b7) (Mem.own_rd u5) (Mem.own_rd u6) fits_s.out).mono ?_; rintro e w8 ⟨rfl, b8⟩
         have z0 := cell_below b8 (p := ⟨w.heap.size, 0, none⟩) l7 z0
         have z1 := cell_below b8 (p := ⟨w.heap.size, 1, none⟩) l7 z1
         have z2 := cell_below b8 (p := ⟨w4.heap.size, 0, none⟩) m7 z2
         have z3 := cell_below b8 (p := ⟨w4.heap.size, 1, none⟩) m7 z3))
  have b8 := (show Below w6.heap.size w6 w7 from ⟨b7.os, b7.tape, b7.output, b7.size, b7.block⟩).trans (b8.mono b7.size)
  clear r0_ r1_
  have sb8 := b8.size
  have k := k.trans (b8.mono k.size)
  have xy_s0 := cell_below b8 (p := ⟨w4.heap.size, 0, none⟩) xl_s xy_s0
  have xy_s1 := cell_below b8 (p := ⟨w4.heap.size, 1, none⟩) xl_s xy_s1
  have xl_s := Nat.lt_of_lt_of_le xl_s sb8
  have xo_s0 := Mem.own_below xo_s0 b8
  have xo_s1 := Mem.own_below xo_s1 b8
  have xo_e0 := Mem.own_below xo_e0 b8
  obtain ⟨B, x0, x1, lx⟩ := BX.out _ k
  have elo_e_k := k.size
  go_wp2_with fail
  refine (toTermS_M A_e0 n_e0 c_e0 e _ (Mem.rd_on h_e0 B) i_e).mono ?_
  rintro e w9 ⟨eA_e0, en_e0, ec_e0, ef_e0, rfl, eo_e0, end_e, elo_e, b9⟩
  have sb9 := b9.size
  have k := k.trans (b9.mono k.size)
  have xy_s0 := cell_below b9 (p := ⟨w4.heap.size, 0, none⟩) xl_s xy_s0
  have xy_s1 := cell_below b9 (p := ⟨w4.heap.size, 1, none⟩) xl_s xy_s1
  have xl_s := Nat.lt_of_lt_of_le xl_s sb9
  have xo_s0 := Mem.own_below xo_s0 b9
  have xo_s1 := Mem.own_below xo_s1 b9
  have xo_e0 := Mem.own_below xo_e0 b9
  obtain ⟨B, x0, x1, lx⟩ := BX.out _ k
  have elo_e_hi := Mem.own_lt eo_e0
  go_wp2_with fail
  refine (eqTermS_M xA_e0 eA_e0 xn_e0 xc_e0 en_e0 ec_e0 e _ (Mem.own_rd xo_e0) (Mem.own_rd eo_e0) sz_e).mono ?_
  rintro e w10 ⟨rfl, b10⟩
  have sb10 := b10.size
  have k := k.trans (b10.mono k.size)
  have xy_s0 := cell_below b10 (p := ⟨w4.heap.size, 0, none⟩) xl_s xy_s0
  have xy_s1 := cell_below b10 (p := ⟨w4.heap.size, 1, none⟩) xl_s xy_s1
  have xl_s := Nat.lt_of_lt_of_le xl_s sb10
  have xo_s0 := Mem.own_below xo_s0 b10
  have xo_s1 := Mem.own_below xo_s1 b10
  have xo_e0 := Mem.own_below xo_e0 b10
  have eo_e0 := Mem.own_below eo_e0 b10
  obtain ⟨B, x0, x1, lx⟩ := BX.out _ k
  go_wp2
  go_ret
  exact ⟨rfl, B⟩

set_option maxRecDepth 100000 in
theorem slAlways_lifted (os : Os) (started : os.Started) (H : Type) (enc : TypeId × Value → H) :
    ReturnsInHanded {} Tryz.checked os 4 .any (fun w args => (Rows.fnExactAlwaysSpec.pre enc Tryz.prog Tryz.f4 [] false w args ∧ laidMetH Tryz.prog laid1 w) ∧ sizedMet enc Tryz.prog Tryz.f4 (OpenSpec.ofChange Rows.fnExactAlwaysSpec) false w args) (Rows.fnExactAlwaysSpec.post enc Tryz.prog Tryz.f4 false true false false) := by
  refine returnsInHanded_of_change_and (C := Tryz.checked) (X := fun w _ => laidMetH Tryz.prog laid1 w) (fun _ _ _ hh h => h.of_heap hh) door_own started (by kernel_rfl) Tryz.func4
    (ChangeSpec.witness_shaped (enc := enc) (C := Tryz.checked) (os := os) (X := fun w _ => laidMetH Tryz.prog laid1 w) false (World.doorLaid Tryz.prog 14 os) #[.agg #[.slice none 0 0, .slice none 0 0], .slice none 0 0] 8 rfl (World.shaped_of_RefB (by kernel_rfl) (by kernel_rfl)) (by kernel_rfl) (by kernel_rfl) (by kernel_rfl) (door_met os _)) ?_
  intro W base args ds gs before hval0 hW _ _ hL _
  have hval : ∀ (j : Nat) t v, Tryz.f4.params[j]? = some t → args[j]? = some v → Value.okWide Tryz.prog W .any base t v := hval0
  have hW' := hW
  have hW2 := hW
  obtain ⟨p, q, hA0, hV, rfl, hfz, hnd⟩ := hW2
  have hA : DataW.TrodAll enc Tryz.prog W 0 (fun _ => true) true Tryz.f4.params.toList args.toList ds p := hA0
  rw [Tryz.params4] at hA hval
  obtain ⟨u0, u1, d0, d1, p0, p1, rfl, rfl, rfl, h0, h1⟩ := trodAll_two hA
  obtain ⟨rfl, rfl⟩ := trodVars_none hV
  have k0 := h0
  obtain ⟨A_s0, n_s0, c_s0, A_s1, n_s1, c_s1, s, rfl, ra0, rb0⟩ := open_system (hval 0 25 u0 rfl rfl) h0
  have k1 := h1
  obtain ⟨A_e0, n_e0, c_e0, e, rfl, mm1, rr1⟩ := open_terms (hval 1 39 u1 rfl rfl) h1
  clear hA0 hval0
  simp only [List.append_nil] at hW'
  have hlt : ∀ x ∈ p0 ++ p1, x.block < W.heap.size := fun x hx => hW'.lt x (by simpa using hx)
  refine (slAlways_any s e A_s0 n_s0 c_s0 A_s1 n_s1 c_s1 A_e0 n_e0 c_e0 W ra0 rb0 (rd_tms.2 ⟨mm1, rr1⟩) (door_at hL)).mono fun e W' ⟨he, hb⟩ => ?_
  subst he
  exact ⟨_, rfl, post_below (pa := p0 ++ p1) (pv := []) hW' (fun _ _ _ => trodAll_mk1 (shut_bool Tryz.underlying4 _))
    (fun sp hsp => trodAll_mk2 (WideElems.Trod_stays Tryz.laidOut (by kernel_rfl) (of_decide_eq_true (by kernel_rfl)) k0 (fun x hx => hb.same (hlt x (by simp [hx]))) (fun x hx => hsp x (by simp [hx]))) (WideElems.Trod_stays Tryz.laidOut (by kernel_rfl) (of_decide_eq_true (by kernel_rfl)) k1 (fun x hx => hb.same (hlt x (by simp [hx]))) (fun x hx => hsp x (by simp [hx])))) (fun _ _ => rfl) (by simp)
    hb (ok_one (by kernel_rfl) rfl (okWide_bool_mk Tryz.underlying4 _))⟩

theorem slAlways_holds : Rows.FnExactAlwaysSaid :=
  OpenClaim.holds_of_wide 4 Tryz.f4 rfl rfl rfl rfl rfl rfl rfl ⟨rfl, rfl, rfl, rfl, rfl⟩ rfl rfl rfl rfl rfl (by kernel_rfl) Tryz.func4 (by kernel_rfl)
    (of_decide_eq_true (by kernel_rfl)) (by unfold Func.isWrapper; first | (rw [if_pos (by decide +kernel)]; kernel_rfl) | (rw [if_neg (by decide +kernel)]; exact ⟨rfl, rfl⟩))
    (fun os started H enc _ => slAlways_lifted os started H enc)
/-- The tied card. -/
theorem slAlways_card : Rows.FnExactAlwaysCardSaid :=
  Claim7.holds_tied_plain_at .later [] [.data] true Rows.fnExactAlwaysCard.stood.harness false
    slAlways_holds (fun _ h => by cases h) (by kernel_rfl) (fun _ h => by cases h) fnExactAlways_row_tie rfl ⟨rfl, rfl⟩ (by kernel_rfl) rfl
    (fun f fn hf hfn => by
      obtain rfl : f = 4 := Option.some.inj ((show Tryz.prog.funcNamed "loop.example/wholecheck/laws.FnExactAlways" = some 4 by kernel_rfl).symm.trans hf) |>.symm
      obtain rfl : fn = Tryz.f4 := (Option.some.inj (Tryz.func4.symm.trans hfn)).symm
      exact ⟨by kernel_rfl, fun j t ht => by
        rw [Tryz.params4] at ht
        have hm : t ∈ [25, 39] := by have h0 := Array.mem_of_getElem? ht; simp at h0; simp [h0]
        have hall : ([25, 39].all fun u => !Tryz.prog.wantsStandIn u) = true := by kernel_rfl
        exact (show Tryz.prog.wantsStandIn t = false by simpa using List.all_eq_true.1 hall t hm)⟩)
    (by kernel_rfl)
end Go.Proofs.YtfgjogmgcamfdaaGreatDoor
