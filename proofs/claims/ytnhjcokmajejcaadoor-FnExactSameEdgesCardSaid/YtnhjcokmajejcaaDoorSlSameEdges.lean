/- For every input the law FnExactSameEdges returns true: the function answers as its model, and writes into no argument. -/
import Derived.Test.YtnhjcokmajejcaaDoorSaI
import Derived.Test.YtnhjcokmajejcaaDoorSaS
import Derived.Test.YtnhjcokmajejcaaDoorDoorC
import Derived.Test.YtnhjcokmajejcaaDoorIl
import Derived.Test.YtnhjcokmajejcaaDoorEqSy
import Derived.Test.YtnhjcokmajejcaaDoorOpenSy
import Derived.Test.YtnhjcokmajejcaaDoorOpenSy
import Derived.Deep.RegionHeld3
namespace Go.Proofs.YtnhjcokmajejcaaDoor
open Go.ChangeShapes Go.WideShapes Go.ChangeAt Go.RowKit

theorem slSameEdges_box {w : World} {v1 v2 : Value} (t : TypeId) : ∀ W, Below (w.alloc (.cells #[v1, v2] t)).heap.size (w.alloc (.cells #[v1, v2] t)) W →
    Below w.heap.size w W ∧ W.cell? ⟨w.heap.size, 0, none⟩ = some v1 ∧ W.cell? ⟨w.heap.size, 1, none⟩ = some v2 ∧ w.heap.size < W.heap.size :=
  fun W hW => ⟨below_call hW, ((ci_blk w _ _).below hW (by simp)).cell 0, ((ci_blk w _ _).below hW (by simp)).cell 1, by have := hW.size; simp at this; omega⟩

set_option maxRecDepth 100000 in
set_option maxHeartbeats 8000000 in
theorem slSameEdges_any (ci : Ci) (a : Int) (b : Int) (A_ci0 : Option Addr) (n_ci0 c_ci0 : Nat) (w : World) (h_ci0 : Mem.rd w w.heap.size [.slice A_ci0 n_ci0 c_ci0] ci.gates) (hT : DoorAt w) :
    Calls Tryd.prog 3 #[.agg #[.int .i64 ci.ins, .slice A_ci0 n_ci0 c_ci0], .int .i64 a, .int .i64 b] w (GivesBool w true) := by
  have m_ci0 := rd_max h_ci0
  unfold maxLen at m_ci0
  by_cases big_ci : 1048576 < (szCi ci : Int)
  · go_enter Tryd.func3, Tryd.ntmps3
    go_wp2_with fail
    refine (szCircuit_any ci A_ci0 n_ci0 c_ci0 (1048576) _ (Mem.rd_on_alloc h_ci0 _) (by omega) (by omega)).mono ?_
    rintro e v0 ⟨rfl, bz0⟩
    have k := bz0
    rw [rest_no big_ci]
    go_wp2
    go_ret
    exact ⟨rfl, by first | exact Below.refl _ _ | exact below_alloc _ _ | exact below_call k | exact below_call (below_call k) | exact k⟩
  have sz_ci : ci.gates.length ≤ 1048576 := by have : szCi ci = ci.gates.length := rfl; omega
  have fits_ci := Lib.hid sz_ci
  have CS := Lib.hid (fun A_ci0' n_ci0' c_ci0' w h_ci0' => sameE_spec ci a b A_ci0' n_ci0' c_ci0' w h_ci0')
  have CI := Lib.hid (fun A_ci0' n_ci0' c_ci0' w h_ci0' (hT : DoorAt w) => sameE_impl ci a b A_ci0' n_ci0' c_ci0' w h_ci0' hT)
  have HT := Lib.hid hT
  clear hT
  generalize sameEB ci a b = F0 at CS CI
  have nz0 : (F0 != F0) = false := by simp
  have BX := Lib.hid (slSameEdges_box (w := w) (v1 := .int .i64 ci.ins) (v2 := .slice A_ci0 n_ci0 c_ci0) 24)
  go_enter Tryd.func3, Tryd.ntmps3
  go_wp2_with fail
  refine (szCircuit_any ci A_ci0 n_ci0 c_ci0 (1048576) _ (Mem.rd_on_alloc h_ci0 _) (by omega) (by omega)).mono ?_
  rintro e v0 ⟨rfl, bz0⟩
  have k := bz0
  rw [rest_yes (by omega)]
  skip
  obtain ⟨B, x0, x1, lx⟩ := BX.out _ k
  have plo_ci_k := k.size
  go_wp2_with fail
  refine (toCircuit_any ci A_ci0 n_ci0 c_ci0 _ (Mem.rd_on h_ci0 B) fits_ci.out).mono ?_
  rintro e w1 ⟨pA_ci0, pn_ci0, pc_ci0, pf_ci0, rfl, po_ci0, pnd_ci, plo_ci, b1⟩
  have sb1 := b1.size
  have k := k.trans (b1.mono k.size)
  obtain ⟨B, x0, x1, lx⟩ := BX.out _ k
  have plo_ci_hi := Mem.own_lt po_ci0
  go_wp2_with fail
  refine (CS.out pA_ci0 pn_ci0 pc_ci0  _ (Mem.own_rd po_ci0)).mono ?_
  rintro e w2 ⟨rfl, b2⟩
  have sb2 := b2.size
  have k := k.trans (b2.mono k.size)
  have po_ci0 := Mem.own_below po_ci0 b2
  obtain ⟨B, x0, x1, lx⟩ := BX.out _ k
  have xlo_ci_k := k.size
  go_wp2_with fail
  refine (toCircuit_any ci A_ci0 n_ci0 c_ci0 _ (Mem.rd_on h_ci0 B) fits_ci.out).mono ?_
  rintro e w3 ⟨xA_ci0, xn_ci0, xc_ci0, xf_ci0, rfl, xo_ci0, xnd_ci, xlo_ci, b3⟩
  have sb3 := b3.size
  have k := k.trans (b3.mono k.size)
  obtain ⟨B, x0, x1, lx⟩ := BX.out _ k
  have xlo_ci_hi := Mem.own_lt xo_ci0
  go_wp2_with fail
  refine (CI.out xA_ci0 xn_ci0 xc_ci0  _ (Mem.rd_on_alloc (Mem.own_rd xo_ci0) _) ((HT.out.on B).on_alloc _)).mono ?_
  rintro e w4 ⟨rfl, b4⟩
  obtain ⟨_, xy_ci0, xy_ci1, xl_ci⟩ := slSameEdges_box 29 w4 b4
  have zb4 := b4.size; rw [World.size_alloc] at zb4
  have b4 := below_call b4
  have sb4 := b4.size
  have k := k.trans (b4.mono k.size)
  have xo_ci0 := Mem.own_below xo_ci0 b4
  obtain ⟨B, x0, x1, lx⟩ := BX.out _ k
  have r0_ := Mem.own_rd xo_ci0
  go_wp2
  go_region_held3 (fun w' => w'.cell? ⟨w.heap.size, 0, none⟩ = some (.int .i64 ci.ins) ∧ w'.cell? ⟨w.heap.size, 1, none⟩ = some (.slice A_ci0 n_ci0 c_ci0) ∧ w'.cell? ⟨w3.heap.size, 0, none⟩ = some (.int .i64 ci.ins) ∧ w'.cell? ⟨w3.heap.size, 1, none⟩ = some (.slice xA_ci0 xn_ci0 xc_ci0)) (go_keep)
    (first
      | (go_at_call 9; refine (toCircuit_any ci A_ci0 n_ci0 c_ci0 w4.drew (Mem.rd_drew (Mem.rd_on h_ci0 B)) fits_ci.out).mono ?_; rintro e w5 ⟨R1, g1, j1, q5, rfl, u5, _, _, b5⟩
         have z0 := cell_below b5 (p := ⟨w.heap.size, 0, none⟩) lx x0
         have z1 := cell_below b5 (p := ⟨w.heap.size, 1, none⟩) lx x1
         have z2 := cell_below b5 (p := ⟨w3.heap.size, 0, none⟩) xl_ci xy_ci0
         have z3 := cell_below b5 (p := ⟨w3.heap.size, 1, none⟩) xl_ci xy_ci1
         have l7 := Nat.lt_of_lt_of_le lx b5.size
         have m7 := Nat.lt_of_lt_of_le xl_ci b5.size)
      | (go_at_call 11; refine (eqCircuit_same ci xA_ci0 xn_ci0 xc_ci0 R1 g1 j1 _ (Mem.rd_on (Mem.rd_drew r0_) b5) (Mem.own_rd u5) fits_ci.out).mono ?_; rintro e w6 ⟨rfl, b6⟩
         have z0 := cell_below b6 (p := ⟨w.heap.size, 0, none⟩) l7 z0
         have z1 := cell_below b6 (p := ⟨w.heap.size, 1, none⟩) l7 z1
         have z2 := cell_below b6 (p := ⟨w3.heap.size, 0, none⟩) m7 z2
         have z3 := cell_below b6 (p := ⟨w3.heap.size, 1, none⟩) m7 z3))
  have b6 := (show Below w4.heap.size w4 w5 from ⟨b5.os, b5.tape, b5.output, b5.size, b5.block⟩).trans (b6.mono b5.size)
  clear r0_
  have sb6 := b6.size
  have k := k.trans (b6.mono k.size)
  have xy_ci0 := cell_below b6 (p := ⟨w3.heap.size, 0, none⟩) xl_ci xy_ci0
  have xy_ci1 := cell_below b6 (p := ⟨w3.heap.size, 1, none⟩) xl_ci xy_ci1
  have xl_ci := Nat.lt_of_lt_of_le xl_ci sb6
  have xo_ci0 := Mem.own_below xo_ci0 b6
  obtain ⟨B, x0, x1, lx⟩ := BX.out _ k
  go_wp2
  go_ret
  exact ⟨rfl, B⟩

set_option maxRecDepth 100000 in
theorem slSameEdges_lifted (os : Os) (started : os.Started) (H : Type) (enc : TypeId × Value → H) :
    ReturnsInHanded {} Tryd.checked os 3 .any (fun w args => (Rows.fnExactSameEdgesSpec.pre enc Tryd.prog Tryd.f3 [] false w args ∧ laidMetH Tryd.prog laid1 w) ∧ sizedMet enc Tryd.prog Tryd.f3 (OpenSpec.ofChange Rows.fnExactSameEdgesSpec) false w args) (Rows.fnExactSameEdgesSpec.post enc Tryd.prog Tryd.f3 false true false false) := by
  refine returnsInHanded_of_change_and (C := Tryd.checked) (X := fun w _ => laidMetH Tryd.prog laid1 w) (fun _ _ _ hh h => h.of_heap hh) door_own started (by kernel_rfl) Tryd.func3
    (ChangeSpec.witness_shaped (enc := enc) (C := Tryd.checked) (os := os) (X := fun w _ => laidMetH Tryd.prog laid1 w) false (World.doorLaid Tryd.prog 14 os) #[.agg #[.int .i64 0, .slice none 0 0], .int .i64 0, .int .i64 0] 8 rfl (World.shaped_of_RefB (by kernel_rfl) (by kernel_rfl)) (by kernel_rfl) (by kernel_rfl) (by kernel_rfl) (door_met os _)) ?_
  intro W base args ds gs before hval0 hW _ _ hL _
  have hval : ∀ (j : Nat) t v, Tryd.f3.params[j]? = some t → args[j]? = some v → Value.okWide Tryd.prog W .any base t v := hval0
  have hW' := hW
  have hW2 := hW
  obtain ⟨p, q, hA0, hV, rfl, hfz, hnd⟩ := hW2
  have hA : DataW.TrodAll enc Tryd.prog W 0 (fun _ => true) true Tryd.f3.params.toList args.toList ds p := hA0
  rw [Tryd.params3] at hA hval
  obtain ⟨u0, u1, u2, d0, d1, d2, p0, p1, p2, rfl, rfl, rfl, h0, h1, h2⟩ := trodAll_three hA
  obtain ⟨dv, rfl⟩ := vars_one hV
  have k0 := h0
  obtain ⟨A_ci0, n_ci0, c_ci0, ci, rfl, ra0, wf0⟩ := open_circuit (hval 0 24 u0 rfl rfl) h0
  obtain ⟨a, rfl, rfl, rfl, wf1⟩ := open_int Tryd.underlying3 (hval 1 3 u1 rfl rfl) h1
  obtain ⟨b, rfl, rfl, rfl, wf2⟩ := open_int Tryd.underlying3 (hval 2 3 u2 rfl rfl) h2
  clear hA0 hval0
  simp only [List.append_nil] at hW'
  have hlt : ∀ x ∈ p0, x.block < W.heap.size := fun x hx => hW'.lt x (by simp [hx])
  refine (slSameEdges_any ci a b A_ci0 n_ci0 c_ci0 W ra0 (door_at hL)).mono fun e W' ⟨he, hb⟩ => ?_
  subst he
  exact ⟨_, rfl, post_below (pa := p0 ++ ([] ++ ([]))) (pv := q) hW' (fun _ _ _ => trodAll_mk1 (shut_bool Tryd.underlying4 _))
    (fun sp hsp => trodAll_mk3 (WideElems.Trod_stays Tryd.laidOut (by kernel_rfl) (of_decide_eq_true (by kernel_rfl)) k0 (fun x hx => hb.same (hlt x (by simp [hx]))) (fun x hx => hsp x (by simp [hx]))) (shut_int Tryd.underlying3 wf1) (shut_int Tryd.underlying3 wf2)) (fun sp hsp => vars_stay hV hb (fun x hx => hW'.lt x (by simp [hx])) (fun x hx => hsp x (by simp [hx]))) (by simp)
    hb (ok_one (by kernel_rfl) rfl (okWide_bool_mk Tryd.underlying4 _))⟩

theorem slSameEdges_holds : Rows.FnExactSameEdgesSaid :=
  OpenClaim.holds_of_wide 3 Tryd.f3 rfl rfl rfl rfl rfl rfl rfl ⟨rfl, rfl, rfl, rfl, rfl⟩ rfl rfl rfl rfl rfl (by kernel_rfl) Tryd.func3 (by kernel_rfl)
    (of_decide_eq_true (by kernel_rfl)) (by unfold Func.isWrapper; first | (rw [if_pos (by decide +kernel)]; kernel_rfl) | (rw [if_neg (by decide +kernel)]; exact ⟨rfl, rfl⟩))
    (fun os started H enc _ => slSameEdges_lifted os started H enc)
/-- The tied card. -/
theorem slSameEdges_card : Rows.FnExactSameEdgesCardSaid :=
  Claim7.holds_tied_plain_at .later [] [.data] true Rows.fnExactSameEdgesCard.stood.harness false
    slSameEdges_holds (fun _ h => by cases h) (by kernel_rfl) (fun _ h => by cases h) fnExactSameEdges_row_tie rfl ⟨rfl, rfl⟩ (by kernel_rfl) rfl
    (fun f fn hf hfn => by
      obtain rfl : f = 3 := Option.some.inj ((show Tryd.prog.funcNamed "loop.example/wholecheck/laws.FnExactSameEdges" = some 3 by kernel_rfl).symm.trans hf) |>.symm
      obtain rfl : fn = Tryd.f3 := (Option.some.inj (Tryd.func3.symm.trans hfn)).symm
      exact ⟨by kernel_rfl, fun j t ht => by
        rw [Tryd.params3] at ht
        have hm : t ∈ [24, 3] := by have h0 := Array.mem_of_getElem? ht; simp at h0; simp [h0]
        have hall : ([24, 3].all fun u => !Tryd.prog.wantsStandIn u) = true := by kernel_rfl
        exact (show Tryd.prog.wantsStandIn t = false by simpa using List.all_eq_true.1 hall t hm)⟩)
    (by kernel_rfl)
end Go.Proofs.YtnhjcokmajejcaaDoor
