/- For every input the law FnExactClausesText returns true: the function answers as its model, and writes into no argument. -/
import Derived.Test.YthlkbkomecnbaaaDoorKxI
import Derived.Test.YthlkbkomecnbaaaDoorKxS
import Derived.Test.YthlkbkomecnbaaaDoorDoorN
import Derived.Test.YthlkbkomecnbaaaDoorIl
import Derived.Test.YthlkbkomecnbaaaDoorEqSy
import Derived.Test.YthlkbkomecnbaaaDoorOpenSy
import Derived.Test.YthlkbkomecnbaaaDoorOpenSy
import Derived.Deep.RegionHeld3
namespace Go.Proofs.YthlkbkomecnbaaaDoor
open Go.ChangeShapes Go.WideShapes Go.ChangeAt Go.RowKit

theorem slClausesText_box {w : World} {v1 v2 : Value} (t : TypeId) : ∀ W, Below (w.alloc (.cells #[v1, v2] t)).heap.size (w.alloc (.cells #[v1, v2] t)) W →
    Below w.heap.size w W ∧ W.cell? ⟨w.heap.size, 0, none⟩ = some v1 ∧ W.cell? ⟨w.heap.size, 1, none⟩ = some v2 ∧ w.heap.size < W.heap.size :=
  fun W hW => ⟨below_call hW, ((ci_blk w _ _).below hW (by simp)).cell 0, ((ci_blk w _ _).below hW (by simp)).cell 1, by have := hW.size; simp at this; omega⟩

set_option maxRecDepth 100000 in
set_option maxHeartbeats 8000000 in
theorem slClausesText_any (cs : Cs) (A_cs0 : Option Addr) (n_cs0 c_cs0 : Nat) (w : World) (h_cs0 : Mem.rd w w.heap.size [.slice A_cs0 n_cs0 c_cs0] cs.list) (hT : DoorAt w) :
    Calls Tryd.prog 3 #[.agg #[.int .i64 cs.atoms, .slice A_cs0 n_cs0 c_cs0]] w (GivesBool w true) := by
  have m_cs0 := rd_max h_cs0
  unfold maxLen at m_cs0
  by_cases big_cs : 1048576 < (szCs cs : Int)
  · go_enter Tryd.func3, Tryd.ntmps3
    go_wp2_with fail
    refine (szClauses_any cs A_cs0 n_cs0 c_cs0 (1048576) _ (Mem.rd_on_alloc h_cs0 _) (by omega) (by omega)).mono ?_
    rintro e v0 ⟨rfl, bz0⟩
    have k := bz0
    rw [rest_no big_cs]
    go_wp2
    go_ret
    exact ⟨rfl, by first | exact Below.refl _ _ | exact below_alloc _ _ | exact below_call k | exact below_call (below_call k) | exact k⟩
  have sz_cs : szII cs.list ≤ 1048576 := by have : szCs cs = szII cs.list := rfl; omega
  have fits_cs := Lib.hid sz_cs
  have CS := Lib.hid (fun A_cs0' n_cs0' c_cs0' w h_cs0' => clausesText_spec cs A_cs0' n_cs0' c_cs0' w h_cs0')
  have CI := Lib.hid (fun A_cs0' n_cs0' c_cs0' w h_cs0' (hT : DoorAt w) => clausesText_impl cs A_cs0' n_cs0' c_cs0' w h_cs0' hT)
  have HT := Lib.hid hT
  clear hT
  generalize csTextB cs = F0 at CS CI
  have nz0 : (F0 != F0) = false := str_ne F0
  have BX := Lib.hid (slClausesText_box (w := w) (v1 := .int .i64 cs.atoms) (v2 := .slice A_cs0 n_cs0 c_cs0) 24)
  go_enter Tryd.func3, Tryd.ntmps3
  go_wp2_with fail
  refine (szClauses_any cs A_cs0 n_cs0 c_cs0 (1048576) _ (Mem.rd_on_alloc h_cs0 _) (by omega) (by omega)).mono ?_
  rintro e v0 ⟨rfl, bz0⟩
  have k := bz0
  rw [rest_yes (by omega)]
  skip
  obtain ⟨B, x0, x1, lx⟩ := BX.out _ k
  have plo_cs_k := k.size
  go_wp2_with fail
  refine (toClauses_any cs A_cs0 n_cs0 c_cs0 _ (Mem.rd_on h_cs0 B) fits_cs.out).mono ?_
  rintro e w1 ⟨pA_cs0, pn_cs0, pc_cs0, pf_cs0, rfl, po_cs0, pnd_cs, plo_cs, b1⟩
  have sb1 := b1.size
  have k := k.trans (b1.mono k.size)
  obtain ⟨B, x0, x1, lx⟩ := BX.out _ k
  have plo_cs_hi := Mem.own_lt po_cs0
  go_wp2_with fail
  refine (CS.out pA_cs0 pn_cs0 pc_cs0  _ (Mem.own_rd po_cs0)).mono ?_
  rintro e w2 ⟨rfl, b2⟩
  have sb2 := b2.size
  have k := k.trans (b2.mono k.size)
  have po_cs0 := Mem.own_below po_cs0 b2
  obtain ⟨B, x0, x1, lx⟩ := BX.out _ k
  have xlo_cs_k := k.size
  go_wp2_with fail
  refine (toClauses_any cs A_cs0 n_cs0 c_cs0 _ (Mem.rd_on h_cs0 B) fits_cs.out).mono ?_
  rintro e w3 ⟨xA_cs0, xn_cs0, xc_cs0, xf_cs0, rfl, xo_cs0, xnd_cs, xlo_cs, b3⟩
  have sb3 := b3.size
  have k := k.trans (b3.mono k.size)
  obtain ⟨B, x0, x1, lx⟩ := BX.out _ k
  have xlo_cs_hi := Mem.own_lt xo_cs0
  go_wp2_with fail
  refine (CI.out xA_cs0 xn_cs0 xc_cs0  _ (Mem.rd_on_alloc (Mem.own_rd xo_cs0) _) ((HT.out.on B).on_alloc _)).mono ?_
  rintro e w4 ⟨rfl, b4⟩
  obtain ⟨_, xy_cs0, xy_cs1, xl_cs⟩ := slClausesText_box 27 w4 b4
  have zb4 := b4.size; rw [World.size_alloc] at zb4
  have b4 := below_call b4
  have sb4 := b4.size
  have k := k.trans (b4.mono k.size)
  have xo_cs0 := Mem.own_below xo_cs0 b4
  obtain ⟨B, x0, x1, lx⟩ := BX.out _ k
  have r0_ := Mem.own_rd xo_cs0
  go_wp2
  go_region_held3 (fun w' => w'.cell? ⟨w.heap.size, 0, none⟩ = some (.int .i64 cs.atoms) ∧ w'.cell? ⟨w.heap.size, 1, none⟩ = some (.slice A_cs0 n_cs0 c_cs0) ∧ w'.cell? ⟨w3.heap.size, 0, none⟩ = some (.int .i64 cs.atoms) ∧ w'.cell? ⟨w3.heap.size, 1, none⟩ = some (.slice xA_cs0 xn_cs0 xc_cs0)) (go_keep)
    (first
      | (go_at_call 6; refine (toClauses_any cs A_cs0 n_cs0 c_cs0 w4.drew (Mem.rd_drew (Mem.rd_on h_cs0 B)) fits_cs.out).mono ?_; rintro e w5 ⟨R1, g1, j1, q5, rfl, u5, _, _, b5⟩
         have z0 := cell_below b5 (p := ⟨w.heap.size, 0, none⟩) lx x0
         have z1 := cell_below b5 (p := ⟨w.heap.size, 1, none⟩) lx x1
         have z2 := cell_below b5 (p := ⟨w3.heap.size, 0, none⟩) xl_cs xy_cs0
         have z3 := cell_below b5 (p := ⟨w3.heap.size, 1, none⟩) xl_cs xy_cs1
         have l7 := Nat.lt_of_lt_of_le lx b5.size
         have m7 := Nat.lt_of_lt_of_le xl_cs b5.size)
      | (go_at_call 8; refine (eqClauses_same cs xA_cs0 xn_cs0 xc_cs0 R1 g1 j1 _ (Mem.rd_on (Mem.rd_drew r0_) b5) (Mem.own_rd u5) fits_cs.out).mono ?_; rintro e w6 ⟨rfl, b6⟩
         have z0 := cell_below b6 (p := ⟨w.heap.size, 0, none⟩) l7 z0
         have z1 := cell_below b6 (p := ⟨w.heap.size, 1, none⟩) l7 z1
         have z2 := cell_below b6 (p := ⟨w3.heap.size, 0, none⟩) m7 z2
         have z3 := cell_below b6 (p := ⟨w3.heap.size, 1, none⟩) m7 z3))
  have b6 := (show Below w4.heap.size w4 w5 from ⟨b5.os, b5.tape, b5.output, b5.size, b5.block⟩).trans (b6.mono b5.size)
  clear r0_
  have sb6 := b6.size
  have k := k.trans (b6.mono k.size)
  have xy_cs0 := cell_below b6 (p := ⟨w3.heap.size, 0, none⟩) xl_cs xy_cs0
  have xy_cs1 := cell_below b6 (p := ⟨w3.heap.size, 1, none⟩) xl_cs xy_cs1
  have xl_cs := Nat.lt_of_lt_of_le xl_cs sb6
  have xo_cs0 := Mem.own_below xo_cs0 b6
  obtain ⟨B, x0, x1, lx⟩ := BX.out _ k
  go_wp2
  go_ret
  exact ⟨rfl, B⟩

set_option maxRecDepth 100000 in
theorem slClausesText_lifted (os : Os) (started : os.Started) (H : Type) (enc : TypeId × Value → H) :
    ReturnsInHanded {} Tryd.checked os 3 .any (fun w args => (Rows.fnExactClausesTextSpec.pre enc Tryd.prog Tryd.f3 [] false w args ∧ laidMetH Tryd.prog laid1 w) ∧ sizedMet enc Tryd.prog Tryd.f3 (OpenSpec.ofChange Rows.fnExactClausesTextSpec) false w args) (Rows.fnExactClausesTextSpec.post enc Tryd.prog Tryd.f3 false true false false) := by
  refine returnsInHanded_of_change_and (C := Tryd.checked) (X := fun w _ => laidMetH Tryd.prog laid1 w) (fun _ _ _ hh h => h.of_heap hh) door_own started (by kernel_rfl) Tryd.func3
    (ChangeSpec.witness_shaped (enc := enc) (C := Tryd.checked) (os := os) (X := fun w _ => laidMetH Tryd.prog laid1 w) false (World.doorLaid Tryd.prog 14 os) #[.agg #[.int .i64 0, .slice none 0 0]] 8 rfl (World.shaped_of_RefB (by kernel_rfl) (by kernel_rfl)) (by kernel_rfl) (by kernel_rfl) (by kernel_rfl) (door_met os _)) ?_
  intro W base args ds gs before hval0 hW _ _ hL _
  have hval : ∀ (j : Nat) t v, Tryd.f3.params[j]? = some t → args[j]? = some v → Value.okWide Tryd.prog W .any base t v := hval0
  have hW' := hW
  have hW2 := hW
  obtain ⟨p, q, hA0, hV, rfl, hfz, hnd⟩ := hW2
  have hA : DataW.TrodAll enc Tryd.prog W 0 (fun _ => true) true Tryd.f3.params.toList args.toList ds p := hA0
  rw [Tryd.params3] at hA hval
  obtain ⟨u0, d0, rfl, rfl, h0⟩ := trodAll_one hA
  obtain ⟨rfl, rfl⟩ := trodVars_none hV
  have k0 := h0
  obtain ⟨A_cs0, n_cs0, c_cs0, cs, rfl, ra0, wf0⟩ := open_clauses (hval 0 24 u0 rfl rfl) h0
  clear hA0 hval0
  simp only [List.append_nil] at hW'
  have hlt : ∀ x ∈ p, x.block < W.heap.size := fun x hx => hW'.lt x (by simpa using hx)
  refine (slClausesText_any cs A_cs0 n_cs0 c_cs0 W ra0 (door_at hL)).mono fun e W' ⟨he, hb⟩ => ?_
  subst he
  exact ⟨_, rfl, post_below (pa := p) (pv := []) hW' (fun _ _ _ => trodAll_mk1 (shut_bool Tryd.underlying4 _))
    (fun sp hsp => trodAll_mk1 (WideElems.Trod_stays Tryd.laidOut (by kernel_rfl) (of_decide_eq_true (by kernel_rfl)) k0 (fun x hx => hb.same (hlt x (by simp [hx]))) (fun x hx => hsp x (by simp [hx])))) (fun _ _ => rfl) (by simp)
    hb (ok_one (by kernel_rfl) rfl (okWide_bool_mk Tryd.underlying4 _))⟩

theorem slClausesText_holds : Rows.FnExactClausesTextSaid :=
  OpenClaim.holds_of_wide 3 Tryd.f3 rfl rfl rfl rfl rfl rfl rfl ⟨rfl, rfl, rfl, rfl, rfl⟩ rfl rfl rfl rfl rfl (by kernel_rfl) Tryd.func3 (by kernel_rfl)
    (of_decide_eq_true (by kernel_rfl)) (by unfold Func.isWrapper; first | (rw [if_pos (by decide +kernel)]; kernel_rfl) | (rw [if_neg (by decide +kernel)]; exact ⟨rfl, rfl⟩))
    (fun os started H enc _ => slClausesText_lifted os started H enc)
/-- The tied card. -/
theorem slClausesText_card : Rows.FnExactClausesTextCardSaid :=
  Claim7.holds_tied_plain_at .later [] [.data, .data, .data] true Rows.fnExactClausesTextCard.stood.harness false
    slClausesText_holds (fun _ h => by cases h) (by kernel_rfl) (fun _ h => by cases h) fnExactClausesText_row_tie rfl ⟨rfl, rfl⟩ (by kernel_rfl) rfl
    (fun f fn hf hfn => by
      obtain rfl : f = 3 := Option.some.inj ((show Tryd.prog.funcNamed "loop.example/wholecheck/laws.FnExactClausesText" = some 3 by kernel_rfl).symm.trans hf) |>.symm
      obtain rfl : fn = Tryd.f3 := (Option.some.inj (Tryd.func3.symm.trans hfn)).symm
      exact ⟨by kernel_rfl, fun j t ht => by
        rw [Tryd.params3] at ht
        have hm : t ∈ [24] := by have h0 := Array.mem_of_getElem? ht; simp at h0; simp [h0]
        have hall : ([24].all fun u => !Tryd.prog.wantsStandIn u) = true := by kernel_rfl
        exact (show Tryd.prog.wantsStandIn t = false by simpa using List.all_eq_true.1 hall t hm)⟩)
    (by kernel_rfl)
end Go.Proofs.YthlkbkomecnbaaaDoor
