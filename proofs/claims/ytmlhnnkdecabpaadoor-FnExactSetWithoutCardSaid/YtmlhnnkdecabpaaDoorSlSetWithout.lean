/- For every input the law FnExactSetWithout returns true: the function answers as its model, and writes into no argument. -/
import Derived.Test.YtmlhnnkdecabpaaDoorMixS
import Derived.Test.YtmlhnnkdecabpaaDoorDoor
import Derived.Test.YtmlhnnkdecabpaaDoorOwnW
import Derived.Test.YtmlhnnkdecabpaaDoorEqSy
import Derived.Test.YtmlhnnkdecabpaaDoorOpenSy
import Derived.Test.YtmlhnnkdecabpaaDoorPost
import Derived.Deep.RegionHeld3
namespace Go.Proofs.YtmlhnnkdecabpaaDoor
open Go.ChangeShapes Go.WideShapes Go.ChangeAt Go.RowKit

theorem slSetWithout_box {w : World} {v1 v2 : Value} (t : TypeId) : ∀ W, Below (w.alloc (.cells #[v1, v2] t)).heap.size (w.alloc (.cells #[v1, v2] t)) W →
    Below w.heap.size w W ∧ W.cell? ⟨w.heap.size, 0, none⟩ = some v1 ∧ W.cell? ⟨w.heap.size, 1, none⟩ = some v2 ∧ w.heap.size < W.heap.size :=
  fun W hW => ⟨below_call hW, ((Blk.new w _ _).below hW (by simp)).cell 0, ((Blk.new w _ _).below hW (by simp)).cell 1, by have := hW.size; simp at this; omega⟩

set_option maxRecDepth 100000 in
set_option maxHeartbeats 8000000 in
theorem slSetWithout_any (a : List Int) (b : List Int) (A_a0 : Option Addr) (n_a0 c_a0 : Nat) (A_b0 : Option Addr) (n_b0 c_b0 : Nat) (w : World) (h_a0 : Mem.rd w w.heap.size [.slice A_a0 n_a0 c_a0] a) (h_b0 : Mem.rd w w.heap.size [.slice A_b0 n_b0 c_b0] b) (hT : DoorAt w) :
    Calls Tryd.prog 8 #[.slice A_a0 n_a0 c_a0, .slice A_b0 n_b0 c_b0] w (GivesBool w true) := by
  have m_a0 := rd_max h_a0
  have m_b0 := rd_max h_b0
  unfold maxLen at m_a0 m_b0
  by_cases big_a : 1048576 < n_a0
  · go_enter Tryd.func8, Tryd.ntmps8
    go_wp2
    go_ret
    exact ⟨rfl, by first | exact Below.refl _ _ | exact below_alloc _ _ | exact (below_alloc _ _).trans ((below_alloc _ _).mono (by simp))⟩
  by_cases big_b : 1048576 < n_b0
  · go_enter Tryd.func8, Tryd.ntmps8
    go_wp2
    go_ret
    exact ⟨rfl, by first | exact Below.refl _ _ | exact below_alloc _ _ | exact (below_alloc _ _).trans ((below_alloc _ _).mono (by simp))⟩
  have i_a : n_a0 ≤ 1048576 := by omega
  have sz_a : a.length ≤ 1048576 := by rw [rd_len h_a0]; exact i_a
  have i_b : n_b0 ≤ 1048576 := by omega
  have sz_b : b.length ≤ 1048576 := by rw [rd_len h_b0]; exact i_b
  have CS := Lib.hid (fun A_a0' n_a0' c_a0' A_b0' n_b0' c_b0' w h_a0' h_b0' => setWithout_spec a b A_a0' n_a0' c_a0' A_b0' n_b0' c_b0' w h_a0' h_b0')
  have CI := Lib.hid (fun A_a0' n_a0' c_a0' A_b0' n_b0' c_b0' w h_a0' h_b0' (hT : DoorAt w) => setWithout_impl a b A_a0' n_a0' c_a0' A_b0' n_b0' c_b0' w h_a0' h_b0' hT)
  have HT := Lib.hid hT
  clear hT
  have bF0 := mixL_len gWithout a b
  generalize mixL gWithout a b = F0 at CS CI bF0
  obtain ⟨m0, hm0⟩ : ∃ m, m = F0.length := ⟨_, rfl⟩
  rw [← hm0] at bF0
  have HM0 := Lib.hid hm0
  clear hm0
  obtain ⟨mk_a, HM_a, hk_a⟩ : ∃ m : Nat, Hid (m = a.length) ∧ m ≤ 1048576 := ⟨_, Lib.hid rfl, sz_a⟩
  obtain ⟨mk_b, HM_b, hk_b⟩ : ∃ m : Nat, Hid (m = b.length) ∧ m ≤ 1048576 := ⟨_, Lib.hid rfl, sz_b⟩
  go_enter Tryd.func8, Tryd.ntmps8
  go_wp2_with fail
  refine (toIntS_M A_a0 n_a0 c_a0 a _ h_a0 i_a).mono ?_
  rintro e w1 ⟨pA_a0, pn_a0, pc_a0, pf_a0, rfl, po_a0, pnd_a, plo_a, b1⟩
  have k := b1
  have B := k
  have plo_a_hi := Mem.own_lt po_a0
  have plo_b_k := k.size
  go_wp2_with fail
  refine (toIntS_M A_b0 n_b0 c_b0 b _ (Mem.rd_on h_b0 B) i_b).mono ?_
  rintro e w2 ⟨pA_b0, pn_b0, pc_b0, pf_b0, rfl, po_b0, pnd_b, plo_b, b2⟩
  have sb2 := b2.size
  have k := k.trans (b2.mono k.size)
  have po_a0 := Mem.own_below po_a0 b2
  have B := k
  have plo_b_hi := Mem.own_lt po_b0
  have slo_k := k.size
  go_wp2_with fail
  refine (CS.out pA_a0 pn_a0 pc_a0 pA_b0 pn_b0 pc_b0  _ (Mem.own_rd po_a0) (Mem.own_rd po_b0)).mono ?_
  rintro e w3 ⟨sA0, sn0, sc0, sf0, rfl, so0, snd, slo, b3⟩
  have sb3 := b3.size
  have k := k.trans (b3.mono k.size)
  have po_a0 := Mem.own_below po_a0 b3
  have po_b0 := Mem.own_below po_b0 b3
  have B := k
  have slo_hi := Mem.own_lt so0
  have xlo_a_k := k.size
  go_wp2_with fail
  refine (toIntS_M A_a0 n_a0 c_a0 a _ (Mem.rd_on h_a0 B) i_a).mono ?_
  rintro e w4 ⟨xA_a0, xn_a0, xc_a0, xf_a0, rfl, xo_a0, xnd_a, xlo_a, b4⟩
  have sb4 := b4.size
  have k := k.trans (b4.mono k.size)
  have so0 := Mem.own_below so0 b4
  have B := k
  have xlo_a_hi := Mem.own_lt xo_a0
  have xlo_b_k := k.size
  go_wp2_with fail
  refine (toIntS_M A_b0 n_b0 c_b0 b _ (Mem.rd_on h_b0 B) i_b).mono ?_
  rintro e w5 ⟨xA_b0, xn_b0, xc_b0, xf_b0, rfl, xo_b0, xnd_b, xlo_b, b5⟩
  have sb5 := b5.size
  have k := k.trans (b5.mono k.size)
  have so0 := Mem.own_below so0 b5
  have xo_a0 := Mem.own_below xo_a0 b5
  have B := k
  have xlo_b_hi := Mem.own_lt xo_b0
  have glo_k := k.size
  go_wp2_with fail
  refine (CI.out xA_a0 xn_a0 xc_a0 xA_b0 xn_b0 xc_b0  _ (Mem.own_rd xo_a0) (Mem.own_rd xo_b0) (HT.out.on B)).mono ?_
  rintro e w6 ⟨gA0, gn0, gc0, gf0, rfl, go0, gnd, glo, b6⟩
  have sb6 := b6.size
  have k := k.trans (b6.mono k.size)
  have so0 := Mem.own_below so0 b6
  have xo_a0 := Mem.own_below xo_a0 b6
  have xo_b0 := Mem.own_below xo_b0 b6
  have B := k
  have glo_hi := Mem.own_lt go0
  go_wp2_with fail
  refine (eqIntS_M gA0 sA0 gn0 gc0 sn0 sc0 F0 _ (Mem.own_rd go0) (Mem.own_rd so0)).mono ?_
  rintro e w7 ⟨rfl, b7⟩
  have sb7 := b7.size
  have k := k.trans (b7.mono k.size)
  have so0 := Mem.own_below so0 b7
  have xo_a0 := Mem.own_below xo_a0 b7
  have xo_b0 := Mem.own_below xo_b0 b7
  have go0 := Mem.own_below go0 b7
  have B := k
  have elo_a_k := k.size
  go_wp2_with fail
  refine (toIntS_M A_a0 n_a0 c_a0 a _ (Mem.rd_on h_a0 B) i_a).mono ?_
  rintro e w8 ⟨eA_a0, en_a0, ec_a0, ef_a0, rfl, eo_a0, end_a, elo_a, b8⟩
  have sb8 := b8.size
  have k := k.trans (b8.mono k.size)
  have so0 := Mem.own_below so0 b8
  have xo_a0 := Mem.own_below xo_a0 b8
  have xo_b0 := Mem.own_below xo_b0 b8
  have go0 := Mem.own_below go0 b8
  have B := k
  have elo_a_hi := Mem.own_lt eo_a0
  go_wp2_with fail
  refine (eqIntS_M xA_a0 eA_a0 xn_a0 xc_a0 en_a0 ec_a0 a _ (Mem.own_rd xo_a0) (Mem.own_rd eo_a0)).mono ?_
  rintro e w9 ⟨rfl, b9⟩
  have sb9 := b9.size
  have k := k.trans (b9.mono k.size)
  have so0 := Mem.own_below so0 b9
  have xo_a0 := Mem.own_below xo_a0 b9
  have xo_b0 := Mem.own_below xo_b0 b9
  have go0 := Mem.own_below go0 b9
  have eo_a0 := Mem.own_below eo_a0 b9
  have B := k
  have elo_b_k := k.size
  go_wp2_with fail
  refine (toIntS_M A_b0 n_b0 c_b0 b _ (Mem.rd_on h_b0 B) i_b).mono ?_
  rintro e w10 ⟨eA_b0, en_b0, ec_b0, ef_b0, rfl, eo_b0, end_b, elo_b, b10⟩
  have sb10 := b10.size
  have k := k.trans (b10.mono k.size)
  have so0 := Mem.own_below so0 b10
  have xo_a0 := Mem.own_below xo_a0 b10
  have xo_b0 := Mem.own_below xo_b0 b10
  have go0 := Mem.own_below go0 b10
  have B := k
  have elo_b_hi := Mem.own_lt eo_b0
  go_wp2_with fail
  refine (eqIntS_M xA_b0 eA_b0 xn_b0 xc_b0 en_b0 ec_b0 b _ (Mem.own_rd xo_b0) (Mem.own_rd eo_b0)).mono ?_
  rintro e w11 ⟨rfl, b11⟩
  have sb11 := b11.size
  have k := k.trans (b11.mono k.size)
  have so0 := Mem.own_below so0 b11
  have xo_a0 := Mem.own_below xo_a0 b11
  have xo_b0 := Mem.own_below xo_b0 b11
  have go0 := Mem.own_below go0 b11
  have eo_b0 := Mem.own_below eo_b0 b11
  have B := k
  go_wp2_with fail
  refine (markIntS_M xA_a0 xn_a0 xc_a0 a xf_a0 (1) _ xo_a0 (by omega) (by omega) sz_a).mono ?_
  rintro e w12 ⟨rfl, b12⟩
  have sb12 := b12.size
  have k := k.trans (b12.below (by have := k.size; omega) fun b hb => by have := xlo_a b hb; have := xlo_a_k; omega)
  have so0 := Mem.own_only so0 b12 fun b hb hc => by have := slo b hb; have := slo_hi b hb; have := xlo_a b hc; have := xlo_a_hi b hc; omega
  have xo_b0 := Mem.own_only xo_b0 b12 fun b hb hc => by have := xlo_b b hb; have := xlo_b_hi b hb; have := xlo_a b hc; have := xlo_a_hi b hc; omega
  have go0 := Mem.own_only go0 b12 fun b hb hc => by have := glo b hb; have := glo_hi b hb; have := xlo_a b hc; have := xlo_a_hi b hc; omega
  have B := k
  rw [← HM_a.out]
  go_wp2_with fail
  refine (markIntS_M xA_b0 xn_b0 xc_b0 b xf_b0 (1 + (mk_a : Int)) _ xo_b0 (by omega) (by omega) sz_b).mono ?_
  rintro e w13 ⟨rfl, b13⟩
  have sb13 := b13.size
  have k := k.trans (b13.below (by have := k.size; omega) fun b hb => by have := xlo_b b hb; have := xlo_b_k; omega)
  have so0 := Mem.own_only so0 b13 fun b hb hc => by have := slo b hb; have := slo_hi b hb; have := xlo_b b hc; have := xlo_b_hi b hc; omega
  have go0 := Mem.own_only go0 b13 fun b hb hc => by have := glo b hb; have := glo_hi b hb; have := xlo_b b hc; have := xlo_b_hi b hc; omega
  have B := k
  rw [← HM_b.out]
  go_wp2_with fail
  refine (eqIntS_M gA0 sA0 gn0 gc0 sn0 sc0 F0 _ (Mem.own_rd go0) (Mem.own_rd so0)).mono ?_
  rintro e w14 ⟨rfl, b14⟩
  have sb14 := b14.size
  have k := k.trans (b14.mono k.size)
  have so0 := Mem.own_below so0 b14
  have go0 := Mem.own_below go0 b14
  have B := k
  go_wp2_with fail
  refine (markIntS_W gA0 gn0 gc0 F0 gf0 (1) _ go0 (by omega) (by omega) (by rw [← HM0.out]; omega)).mono ?_
  rintro e w15 ⟨rfl, go0, b15⟩
  have sb15 := b15.size
  have k := k.trans (b15.below (by have := k.size; omega) fun b hb => by have := glo b hb; have := glo_k; omega)
  have so0 := Mem.own_only so0 b15 fun b hb hc => by have := slo b hb; have := slo_hi b hb; have := glo b hc; have := glo_hi b hc; omega
  have B := k
  rw [← HM0.out] at go0 ⊢
  have nq : (1 + (m0 : Int) != 1 + (m0 : Int)) = false := by simp
  go_wp2_with fail
  refine (heldIntS_W gA0 gn0 gc0 (1) m0 _ (Mem.own_rd go0) (by omega) (by omega) (by omega)).mono ?_
  rintro e w16 ⟨rfl, b16⟩
  have sb16 := b16.size
  have k := k.trans (b16.mono k.size)
  have so0 := Mem.own_below so0 b16
  have go0 := Mem.own_below go0 b16
  have B := k
  have qlo_a_k := k.size
  go_wp2_with fail
  refine (toIntS_M A_a0 n_a0 c_a0 a _ (Mem.rd_on h_a0 B) i_a).mono ?_
  rintro e w17 ⟨qA_a0, qn_a0, qc_a0, qf_a0, rfl, qo_a0, qnd_a, qlo_a, b17⟩
  have sb17 := b17.size
  have k := k.trans (b17.mono k.size)
  have so0 := Mem.own_below so0 b17
  have go0 := Mem.own_below go0 b17
  have B := k
  have qlo_a_hi := Mem.own_lt qo_a0
  have qlo_b_k := k.size
  go_wp2_with fail
  refine (toIntS_M A_b0 n_b0 c_b0 b _ (Mem.rd_on h_b0 B) i_b).mono ?_
  rintro e w18 ⟨qA_b0, qn_b0, qc_b0, qf_b0, rfl, qo_b0, qnd_b, qlo_b, b18⟩
  have sb18 := b18.size
  have k := k.trans (b18.mono k.size)
  have so0 := Mem.own_below so0 b18
  have go0 := Mem.own_below go0 b18
  have qo_a0 := Mem.own_below qo_a0 b18
  have B := k
  have qlo_b_hi := Mem.own_lt qo_b0
  have hlo_k := k.size
  go_wp2_with fail
  refine (CI.out qA_a0 qn_a0 qc_a0 qA_b0 qn_b0 qc_b0  _ (Mem.own_rd qo_a0) (Mem.own_rd qo_b0) (HT.out.on B)).mono ?_
  rintro e w19 ⟨hA0, hn0, hc0, hf0, rfl, ho0, hnd, hlo, b19⟩
  have sb19 := b19.size
  have k := k.trans (b19.mono k.size)
  have so0 := Mem.own_below so0 b19
  have go0 := Mem.own_below go0 b19
  have qo_a0 := Mem.own_below qo_a0 b19
  have qo_b0 := Mem.own_below qo_b0 b19
  have B := k
  have hlo_hi := Mem.own_lt ho0
  go_wp2_with fail
  refine (eqIntS_M hA0 sA0 hn0 hc0 sn0 sc0 F0 _ (Mem.own_rd ho0) (Mem.own_rd so0)).mono ?_
  rintro e w20 ⟨rfl, b20⟩
  have sb20 := b20.size
  have k := k.trans (b20.mono k.size)
  have so0 := Mem.own_below so0 b20
  have go0 := Mem.own_below go0 b20
  have ho0 := Mem.own_below ho0 b20
  have B := k
  go_wp2_with fail
  refine (heldIntS_W gA0 gn0 gc0 (1) m0 _ (Mem.own_rd go0) (by omega) (by omega) (by omega)).mono ?_
  rintro e w21 ⟨rfl, b21⟩
  have sb21 := b21.size
  have k := k.trans (b21.mono k.size)
  have so0 := Mem.own_below so0 b21
  have go0 := Mem.own_below go0 b21
  have ho0 := Mem.own_below ho0 b21
  have B := k
  go_wp2
  go_ret
  exact ⟨rfl, B⟩

set_option maxRecDepth 100000 in
theorem slSetWithout_lifted (os : Os) (started : os.Started) (H : Type) (enc : TypeId × Value → H) :
    ReturnsInHanded {} Tryd.checked os 8 .any (fun w args => (Rows.fnExactSetWithoutSpec.pre enc Tryd.prog Tryd.f8 [] false w args ∧ laidMetH Tryd.prog laid1 w) ∧ sizedMet enc Tryd.prog Tryd.f8 (OpenSpec.ofChange Rows.fnExactSetWithoutSpec) false w args) (Rows.fnExactSetWithoutSpec.post enc Tryd.prog Tryd.f8 false true false false) := by
  refine returnsInHanded_of_change_and (C := Tryd.checked) (X := fun w _ => laidMetH Tryd.prog laid1 w) (fun _ _ _ hh h => h.of_heap hh) door_own started (by kernel_rfl) Tryd.func8
    (ChangeSpec.witness_shaped (enc := enc) (C := Tryd.checked) (os := os) (X := fun w _ => laidMetH Tryd.prog laid1 w) false (World.doorLaid Tryd.prog 14 os) #[.slice none 0 0, .slice none 0 0] 8 rfl (World.shaped_of_RefB (by kernel_rfl) (by kernel_rfl)) (by kernel_rfl) (by kernel_rfl) (by kernel_rfl) (door_met os _)) ?_
  intro W base args ds gs before hval0 hW _ _ hL _
  have hval : ∀ (j : Nat) t v, Tryd.f8.params[j]? = some t → args[j]? = some v → Value.okWide Tryd.prog W .any base t v := hval0
  have hW' := hW
  have hW2 := hW
  obtain ⟨p, q, hA0, hV, rfl, hfz, hnd⟩ := hW2
  have hA : DataW.TrodAll enc Tryd.prog W 0 (fun _ => true) true Tryd.f8.params.toList args.toList ds p := hA0
  rw [Tryd.params8] at hA hval
  obtain ⟨u0, u1, d0, d1, p0, p1, rfl, rfl, rfl, h0, h1⟩ := trodAll_two hA
  obtain ⟨rfl, rfl⟩ := trodVars_none hV
  have k0 := h0
  obtain ⟨A_a0, n_a0, c_a0, a, rfl, mm0, rr0⟩ := open_intS (hval 0 29 u0 rfl rfl) h0
  have k1 := h1
  obtain ⟨A_b0, n_b0, c_b0, b, rfl, mm1, rr1⟩ := open_intS (hval 1 29 u1 rfl rfl) h1
  clear hA0 hval0
  simp only [List.append_nil] at hW'
  have hlt : ∀ x ∈ p0 ++ p1, x.block < W.heap.size := fun x hx => hW'.lt x (by simpa using hx)
  refine (slSetWithout_any a b A_a0 n_a0 c_a0 A_b0 n_b0 c_b0 W (rd_ints.2 ⟨mm0, rr0⟩) (rd_ints.2 ⟨mm1, rr1⟩) (door_at hL)).mono fun e W' ⟨he, hb⟩ => ?_
  subst he
  exact ⟨_, rfl, post_below (pa := p0 ++ p1) (pv := []) hW' (fun _ _ _ => trodAll_mk1 (shut_bool Tryd.underlying4 _))
    (fun sp hsp => trodAll_mk2 (WideElems.Trod_stays Tryd.laidOut (by kernel_rfl) (of_decide_eq_true (by kernel_rfl)) k0 (fun x hx => hb.same (hlt x (by simp [hx]))) (fun x hx => hsp x (by simp [hx]))) (WideElems.Trod_stays Tryd.laidOut (by kernel_rfl) (of_decide_eq_true (by kernel_rfl)) k1 (fun x hx => hb.same (hlt x (by simp [hx]))) (fun x hx => hsp x (by simp [hx])))) (fun _ _ => rfl) (by simp)
    hb (ok_one (by kernel_rfl) rfl (okWide_bool_mk Tryd.underlying4 _))⟩

theorem slSetWithout_holds : Rows.FnExactSetWithoutSaid :=
  OpenClaim.holds_of_wide 8 Tryd.f8 rfl rfl rfl rfl rfl rfl rfl ⟨rfl, rfl, rfl, rfl, rfl⟩ rfl rfl rfl rfl rfl (by kernel_rfl) Tryd.func8 (by kernel_rfl)
    (of_decide_eq_true (by kernel_rfl)) (by unfold Func.isWrapper; first | (rw [if_pos (by decide +kernel)]; kernel_rfl) | (rw [if_neg (by decide +kernel)]; exact ⟨rfl, rfl⟩))
    (fun os started H enc _ => slSetWithout_lifted os started H enc)
/-- The tied card. -/
theorem slSetWithout_card : Rows.FnExactSetWithoutCardSaid :=
  Claim7.holds_tied_plain_at .later [] [.data] true Rows.fnExactSetWithoutCard.stood.harness false
    slSetWithout_holds (fun _ h => by cases h) (by kernel_rfl) (fun _ h => by cases h) fnExactSetWithout_row_tie rfl ⟨rfl, rfl⟩ (by kernel_rfl) rfl
    (fun f fn hf hfn => by
      obtain rfl : f = 8 := Option.some.inj ((show Tryd.prog.funcNamed "loop.example/wholecheck/laws.FnExactSetWithout" = some 8 by kernel_rfl).symm.trans hf) |>.symm
      obtain rfl : fn = Tryd.f8 := (Option.some.inj (Tryd.func8.symm.trans hfn)).symm
      exact ⟨by kernel_rfl, fun j t ht => by
        rw [Tryd.params8] at ht
        have hm : t ∈ [29] := by have h0 := Array.mem_of_getElem? ht; simp at h0; simp [h0]
        have hall : ([29].all fun u => !Tryd.prog.wantsStandIn u) = true := by kernel_rfl
        exact (show Tryd.prog.wantsStandIn t = false by simpa using List.all_eq_true.1 hall t hm)⟩)
    (by kernel_rfl)
end Go.Proofs.YtmlhnnkdecabpaaDoor
