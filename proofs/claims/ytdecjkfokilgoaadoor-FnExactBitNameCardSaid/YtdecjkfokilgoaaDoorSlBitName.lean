/- For every input the law FnExactBitName returns true: the function answers as its model, and writes into no argument. -/
import Derived.Test.YtdecjkfokilgoaaDoorBitN
import Derived.Test.YtdecjkfokilgoaaDoorBitM
import Derived.Test.YtdecjkfokilgoaaDoorDoorN
import Derived.Test.YtdecjkfokilgoaaDoorIl
import Derived.Test.YtdecjkfokilgoaaDoorEqSy
import Derived.Test.YtdecjkfokilgoaaDoorOpenSy
import Derived.Test.YtdecjkfokilgoaaDoorOpenSy
import Derived.Deep.RegionHeld3
namespace Go.Proofs.YtdecjkfokilgoaaDoor
open Go.ChangeShapes Go.WideShapes Go.ChangeAt Go.RowKit

theorem slBitName_box {w : World} {v1 v2 : Value} (t : TypeId) : ∀ W, Below (w.alloc (.cells #[v1, v2] t)).heap.size (w.alloc (.cells #[v1, v2] t)) W →
    Below w.heap.size w W ∧ W.cell? ⟨w.heap.size, 0, none⟩ = some v1 ∧ W.cell? ⟨w.heap.size, 1, none⟩ = some v2 ∧ w.heap.size < W.heap.size :=
  fun W hW => ⟨below_call hW, ((Blk.new w _ _).below hW (by simp)).cell 0, ((Blk.new w _ _).below hW (by simp)).cell 1, by have := hW.size; simp at this; omega⟩

set_option maxRecDepth 100000 in
set_option maxHeartbeats 8000000 in
theorem slBitName_any (s : Sy) (n : Int) (wb_n : n < 9223372036854775808) (A_s0 : Option Addr) (n_s0 c_s0 : Nat) (A_s1 : Option Addr) (n_s1 c_s1 : Nat) (w : World) (h_s0 : Mem.rd w w.heap.size [.slice A_s0 n_s0 c_s0] s.vars) (h_s1 : Mem.rd w w.heap.size [.slice A_s1 n_s1 c_s1] s.rules) (hT : DoorAt w) :
    Calls Tryd.prog 3 #[.agg #[.slice A_s0 n_s0 c_s0, .slice A_s1 n_s1 c_s1], .int .i64 n] w (GivesBool w true) := by
  have m_s0 := rd_max h_s0
  have m_s1 := rd_max h_s1
  unfold maxLen at m_s0 m_s1
  by_cases big_s : 1048576 < (szSy s : Int)
  · go_enter Tryd.func3, Tryd.ntmps3
    go_wp2_with fail
    refine (szSystem_any s A_s0 n_s0 c_s0 A_s1 n_s1 c_s1 (1048576) _ (Mem.rd_on_alloc h_s0 _) (Mem.rd_on_alloc h_s1 _) (by omega) (by omega)).mono ?_
    rintro e v0 ⟨rfl, bz0⟩
    have k := bz0
    rw [rest_no big_s]
    go_wp2
    go_ret
    exact ⟨rfl, by first | exact Below.refl _ _ | exact below_alloc _ _ | exact below_call k | exact below_call (below_call k) | exact k⟩
  have fits_s := Lib.hid (Sy.fits_of (s := s) (by omega))
  have sz_s : szSy s ≤ 1048576 := by omega
  have WB_n := Lib.hid wb_n; clear wb_n
  have CS := Lib.hid (fun A_s0' n_s0' c_s0' A_s1' n_s1' c_s1' w h_s0' h_s1' => bitName_spec s n A_s0' n_s0' c_s0' A_s1' n_s1' c_s1' w h_s0' h_s1' WB_n.out)
  have CI := Lib.hid (fun A_s0' n_s0' c_s0' A_s1' n_s1' c_s1' w h_s0' h_s1' (hT : DoorAt w) => bitName_impl s n A_s0' n_s0' c_s0' A_s1' n_s1' c_s1' w h_s0' h_s1' WB_n.out hT)
  have HT := Lib.hid hT
  clear hT
  generalize bitNameB s n = F0 at CS CI
  have nz0 : (F0 != F0) = false := str_ne F0
  have BX := Lib.hid (slBitName_box (w := w) (v1 := .slice A_s0 n_s0 c_s0) (v2 := .slice A_s1 n_s1 c_s1) 25)
  go_enter Tryd.func3, Tryd.ntmps3
  go_wp2_with fail
  refine (szSystem_any s A_s0 n_s0 c_s0 A_s1 n_s1 c_s1 (1048576) _ (Mem.rd_on_alloc h_s0 _) (Mem.rd_on_alloc h_s1 _) (by omega) (by omega)).mono ?_
  rintro e v0 ⟨rfl, bz0⟩
  have k := bz0
  rw [rest_yes (by omega)]
  skip
  obtain ⟨B, x0, x1, lx⟩ := BX.out _ k
  have plo_s_k := k.size
  go_wp2_with fail
  refine (toSystem_any s A_s0 n_s0 c_s0 A_s1 n_s1 c_s1 _ (Mem.rd_on h_s0 B) (Mem.rd_on h_s1 B) fits_s.out).mono ?_
  rintro e w1 ⟨pA_s0, pn_s0, pc_s0, pA_s1, pn_s1, pc_s1, pf_s0, pf_s1, rfl, po_s0, po_s1, pnd_s, plo_s, b1⟩
  have sb1 := b1.size
  have k := k.trans (b1.mono k.size)
  obtain ⟨B, x0, x1, lx⟩ := BX.out _ k
  have plo_s0 : ∀ b ∈ pf_s0, _ := fun b hb => plo_s b (List.mem_append_left _ hb)
  have plo_s0_hi := Mem.own_lt po_s0
  have plo_s1 : ∀ b ∈ pf_s1, _ := fun b hb => plo_s b (List.mem_append_right _ hb)
  have plo_s1_hi := Mem.own_lt po_s1
  have plo_s_hi : ∀ b ∈ pf_s0 ++ pf_s1, _ := fun b hb => (List.mem_append.1 hb).elim (plo_s0_hi b) (plo_s1_hi b)
  go_wp2_with fail
  refine (CS.out pA_s0 pn_s0 pc_s0 pA_s1 pn_s1 pc_s1  _ (Mem.own_rd po_s0) (Mem.own_rd po_s1)).mono ?_
  rintro e w2 ⟨rfl, b2⟩
  have sb2 := b2.size
  have k := k.trans (b2.mono k.size)
  have po_s0 := Mem.own_below po_s0 b2
  have po_s1 := Mem.own_below po_s1 b2
  obtain ⟨B, x0, x1, lx⟩ := BX.out _ k
  have xlo_s_k := k.size
  go_wp2_with fail
  refine (toSystem_any s A_s0 n_s0 c_s0 A_s1 n_s1 c_s1 _ (Mem.rd_on h_s0 B) (Mem.rd_on h_s1 B) fits_s.out).mono ?_
  rintro e w3 ⟨xA_s0, xn_s0, xc_s0, xA_s1, xn_s1, xc_s1, xf_s0, xf_s1, rfl, xo_s0, xo_s1, xnd_s, xlo_s, b3⟩
  have sb3 := b3.size
  have k := k.trans (b3.mono k.size)
  obtain ⟨B, x0, x1, lx⟩ := BX.out _ k
  have xlo_s0 : ∀ b ∈ xf_s0, _ := fun b hb => xlo_s b (List.mem_append_left _ hb)
  have xlo_s0_hi := Mem.own_lt xo_s0
  have xlo_s1 : ∀ b ∈ xf_s1, _ := fun b hb => xlo_s b (List.mem_append_right _ hb)
  have xlo_s1_hi := Mem.own_lt xo_s1
  have xlo_s_hi : ∀ b ∈ xf_s0 ++ xf_s1, _ := fun b hb => (List.mem_append.1 hb).elim (xlo_s0_hi b) (xlo_s1_hi b)
  go_wp2_with fail
  refine (CI.out xA_s0 xn_s0 xc_s0 xA_s1 xn_s1 xc_s1  _ (Mem.rd_on_alloc (Mem.own_rd xo_s0) _) (Mem.rd_on_alloc (Mem.own_rd xo_s1) _) ((HT.out.on B).on_alloc _)).mono ?_
  rintro e w4 ⟨rfl, b4⟩
  obtain ⟨_, xy_s0, xy_s1, xl_s⟩ := slBitName_box 31 w4 b4
  have zb4 := b4.size; rw [World.size_alloc] at zb4
  have b4 := below_call b4
  have sb4 := b4.size
  have k := k.trans (b4.mono k.size)
  have xo_s0 := Mem.own_below xo_s0 b4
  have xo_s1 := Mem.own_below xo_s1 b4
  obtain ⟨B, x0, x1, lx⟩ := BX.out _ k
  have r0_ := Mem.own_rd xo_s0
  have r1_ := Mem.own_rd xo_s1
  go_wp2
  go_region_held3 (fun w' => w'.cell? ⟨w.heap.size, 0, none⟩ = some (.slice A_s0 n_s0 c_s0) ∧ w'.cell? ⟨w.heap.size, 1, none⟩ = some (.slice A_s1 n_s1 c_s1) ∧ w'.cell? ⟨w3.heap.size, 0, none⟩ = some (.slice xA_s0 xn_s0 xc_s0) ∧ w'.cell? ⟨w3.heap.size, 1, none⟩ = some (.slice xA_s1 xn_s1 xc_s1)) (go_keep)
    (first
      | (go_at_call 6; refine (toSystem_any s A_s0 n_s0 c_s0 A_s1 n_s1 c_s1 w4.drew (Mem.rd_drew (Mem.rd_on h_s0 B)) (Mem.rd_drew (Mem.rd_on h_s1 B)) fits_s.out).mono ?_; rintro e w5 ⟨R1, g1, j1, R2, g2, j2, q5, q6, rfl, u5, u6, _, _, b5⟩
         have z0 := cell_below b5 (p := ⟨w.heap.size, 0, none⟩) lx x0
         have z1 := cell_below b5 (p := ⟨w.heap.size, 1, none⟩) lx x1
         have z2 := cell_below b5 (p := ⟨w3.heap.size, 0, none⟩) xl_s xy_s0
         have z3 := cell_below b5 (p := ⟨w3.heap.size, 1, none⟩) xl_s xy_s1
         have l7 := Nat.lt_of_lt_of_le lx b5.size
         have m7 := Nat.lt_of_lt_of_le xl_s b5.size)
      | (go_at_call 8; refine (eqSystem_same s xA_s0 xn_s0 xc_s0 xA_s1 xn_s1 xc_s1 R1 g1 j1 R2 g2 j2 _ (Mem.rd_on (Mem.rd_drew r0_) b5) (Mem.rd_on (Mem.rd_drew r1_) b5) (Mem.own_rd u5) (Mem.own_rd u6) fits_s.out).mono ?_; rintro e w6 ⟨rfl, b6⟩
         have z0 := cell_below b6 (p := ⟨w.heap.size, 0, none⟩) l7 z0
         have z1 := cell_below b6 (p := ⟨w.heap.size, 1, none⟩) l7 z1
         have z2 := cell_below b6 (p := ⟨w3.heap.size, 0, none⟩) m7 z2
         have z3 := cell_below b6 (p := ⟨w3.heap.size, 1, none⟩) m7 z3))
  have b6 := (show Below w4.heap.size w4 w5 from ⟨b5.os, b5.tape, b5.output, b5.size, b5.block⟩).trans (b6.mono b5.size)
  clear r0_ r1_
  have sb6 := b6.size
  have k := k.trans (b6.mono k.size)
  have xy_s0 := cell_below b6 (p := ⟨w3.heap.size, 0, none⟩) xl_s xy_s0
  have xy_s1 := cell_below b6 (p := ⟨w3.heap.size, 1, none⟩) xl_s xy_s1
  have xl_s := Nat.lt_of_lt_of_le xl_s sb6
  have xo_s0 := Mem.own_below xo_s0 b6
  have xo_s1 := Mem.own_below xo_s1 b6
  obtain ⟨B, x0, x1, lx⟩ := BX.out _ k
  go_wp2
  go_ret
  exact ⟨rfl, B⟩

set_option maxRecDepth 100000 in
theorem slBitName_lifted (os : Os) (started : os.Started) (H : Type) (enc : TypeId × Value → H) :
    ReturnsInHanded {} Tryd.checked os 3 .any (fun w args => (Rows.fnExactBitNameSpec.pre enc Tryd.prog Tryd.f3 [] false w args ∧ laidMetH Tryd.prog laid1 w) ∧ sizedMet enc Tryd.prog Tryd.f3 (OpenSpec.ofChange Rows.fnExactBitNameSpec) false w args) (Rows.fnExactBitNameSpec.post enc Tryd.prog Tryd.f3 false true false false) := by
  refine returnsInHanded_of_change_and (C := Tryd.checked) (X := fun w _ => laidMetH Tryd.prog laid1 w) (fun _ _ _ hh h => h.of_heap hh) door_own started (by kernel_rfl) Tryd.func3
    (ChangeSpec.witness_shaped (enc := enc) (C := Tryd.checked) (os := os) (X := fun w _ => laidMetH Tryd.prog laid1 w) false (World.doorLaid Tryd.prog 14 os) #[.agg #[.slice none 0 0, .slice none 0 0], .int .i64 0] 8 rfl (World.shaped_of_RefB (by kernel_rfl) (by kernel_rfl)) (by kernel_rfl) (by kernel_rfl) (by kernel_rfl) (door_met os _)) ?_
  intro W base args ds gs before hval0 hW _ _ hL _
  have hval : ∀ (j : Nat) t v, Tryd.f3.params[j]? = some t → args[j]? = some v → Value.okWide Tryd.prog W .any base t v := hval0
  have hW' := hW
  have hW2 := hW
  obtain ⟨p, q, hA0, hV, rfl, hfz, hnd⟩ := hW2
  have hA : DataW.TrodAll enc Tryd.prog W 0 (fun _ => true) true Tryd.f3.params.toList args.toList ds p := hA0
  rw [Tryd.params3] at hA hval
  obtain ⟨u0, u1, d0, d1, p0, p1, rfl, rfl, rfl, h0, h1⟩ := trodAll_two hA
  obtain ⟨rfl, rfl⟩ := trodVars_none hV
  have k0 := h0
  obtain ⟨A_s0, n_s0, c_s0, A_s1, n_s1, c_s1, s, rfl, ra0, rb0⟩ := open_system (hval 0 25 u0 rfl rfl) h0
  obtain ⟨n, rfl, rfl, rfl, wf1⟩ := open_int Tryd.underlying3 (hval 1 3 u1 rfl rfl) h1
  clear hA0 hval0
  simp only [List.append_nil] at hW'
  have hlt : ∀ x ∈ p0, x.block < W.heap.size := fun x hx => hW'.lt x (by simpa using hx)
  refine (slBitName_any s n (lit_lt wf1) A_s0 n_s0 c_s0 A_s1 n_s1 c_s1 W ra0 rb0 (door_at hL)).mono fun e W' ⟨he, hb⟩ => ?_
  subst he
  exact ⟨_, rfl, post_below (pa := p0 ++ ([])) (pv := []) hW' (fun _ _ _ => trodAll_mk1 (shut_bool Tryd.underlying4 _))
    (fun sp hsp => trodAll_mk2 (WideElems.Trod_stays Tryd.laidOut (by kernel_rfl) (of_decide_eq_true (by kernel_rfl)) k0 (fun x hx => hb.same (hlt x (by simp [hx]))) (fun x hx => hsp x (by simp [hx]))) (shut_int Tryd.underlying3 wf1)) (fun _ _ => rfl) (by simp)
    hb (ok_one (by kernel_rfl) rfl (okWide_bool_mk Tryd.underlying4 _))⟩

theorem slBitName_holds : Rows.FnExactBitNameSaid :=
  OpenClaim.holds_of_wide 3 Tryd.f3 rfl rfl rfl rfl rfl rfl rfl ⟨rfl, rfl, rfl, rfl, rfl⟩ rfl rfl rfl rfl rfl (by kernel_rfl) Tryd.func3 (by kernel_rfl)
    (of_decide_eq_true (by kernel_rfl)) (by unfold Func.isWrapper; first | (rw [if_pos (by decide +kernel)]; kernel_rfl) | (rw [if_neg (by decide +kernel)]; exact ⟨rfl, rfl⟩))
    (fun os started H enc _ => slBitName_lifted os started H enc)
/-- The tied card. -/
theorem slBitName_card : Rows.FnExactBitNameCardSaid :=
  Claim7.holds_tied_plain_at .later [] [.data, .data, .data] true Rows.fnExactBitNameCard.stood.harness false
    slBitName_holds (fun _ h => by cases h) (by kernel_rfl) (fun _ h => by cases h) fnExactBitName_row_tie rfl ⟨rfl, rfl⟩ (by kernel_rfl) rfl
    (fun f fn hf hfn => by
      obtain rfl : f = 3 := Option.some.inj ((show Tryd.prog.funcNamed "loop.example/wholecheck/laws.FnExactBitName" = some 3 by kernel_rfl).symm.trans hf) |>.symm
      obtain rfl : fn = Tryd.f3 := (Option.some.inj (Tryd.func3.symm.trans hfn)).symm
      exact ⟨by kernel_rfl, fun j t ht => by
        rw [Tryd.params3] at ht
        have hm : t ∈ [25, 3] := by have h0 := Array.mem_of_getElem? ht; simp at h0; simp [h0]
        have hall : ([25, 3].all fun u => !Tryd.prog.wantsStandIn u) = true := by kernel_rfl
        exact (show Tryd.prog.wantsStandIn t = false by simpa using List.all_eq_true.1 hall t hm)⟩)
    (by kernel_rfl)
end Go.Proofs.YtdecjkfokilgoaaDoor
