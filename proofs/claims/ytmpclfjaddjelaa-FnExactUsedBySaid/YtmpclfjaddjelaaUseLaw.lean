/- For every input the law FnExactUsedBy returns true: the function answers as its model, and writes into no argument. -/
import Derived.Test.YtmpclfjaddjelaaUseS2
import Derived.Test.YtmpclfjaddjelaaLaw3
import Derived.Test.YtmpclfjaddjelaaOpen
import Derived.Test.YtmpclfjaddjelaaPost
namespace Go.Proofs.Ytmpclfjaddjelaa
open Go.ChangeShapes Go.WideShapes Go.ChangeAt Go.RowKit

theorem ul_big0 (A_list : Option Addr) (n_list c_list : Nat) (vars : Int) (w : World) (hm_list : n_list ≤ maxLen)  (hb : 1048576 < n_list) :
    Calls Try.prog 10 #[.slice A_list n_list c_list, .int .i64 vars] w (GivesBool w true) := by
  have := hm_list; unfold maxLen at this
  go_enter Try.func10, Try.ntmps10
  go_wp2_with fail
  refine (szTermS_any A_list n_list c_list 1048576 hm_list (by omega) (by omega) _).mono ?_
  rintro e w' ⟨rfl, rfl⟩
  rw [if_pos (by omega)]
  go_wp2
  go_ret
  exact ⟨rfl, Below.refl _ _⟩

set_option maxHeartbeats 8000000 in
theorem ul_any (A_list : Option Addr) (n_list c_list : Nat) (L_list : List Tm) (vars : Int) (w : World) (r_list : Rd w w.heap.size 4 A_list n_list (tms L_list)) (hm_list : n_list ≤ maxLen) :
    Calls Try.prog 10 #[.slice A_list n_list c_list, .int .i64 vars] w (GivesBool w true) := by
  by_cases s0 : 1048576 < n_list
  · exact ul_big0 A_list n_list c_list vars w hm_list  s0
  have hl_list := Lib.hid r_list.tlen
  have hn_list : n_list ≤ 1048576 := by omega
  have CS := @usedBy_spec
  have CI := @usedBy_impl
  replace CS := fun A n c => CS A n c L_list vars
  replace CI := fun A n c => CI A n c L_list vars
  have hkl := used_len L_list vars
  generalize usedL L_list vars = f at CS CI hkl
  have CS := Lib.hid CS
  have CI := Lib.hid CI
  obtain ⟨m, hm⟩ : ∃ m, m = f.length := ⟨_, rfl⟩
  rw [← hm] at hkl
  have HM := Lib.hid hm
  clear hm
  go_enter Try.func10, Try.ntmps10
  go_wp2_with fail
  refine (szTermS_any A_list n_list c_list 1048576 hm_list (by omega) (by omega) _).mono ?_
  rintro e w' ⟨rfl, rfl⟩
  rw [if_neg (by omega)]
  go_wp2_with fail
  refine (toTermS_any A_list n_list c_list L_list _ r_list hn_list).mono ?_
  rintro e w1 ⟨v_p_list, rfl, o_p_list, b1⟩
  have B1 := b1
  rw [hl_list.out] at o_p_list
  obtain ⟨A_p_list, c_p_list, rfl, _, _⟩ := own_form o_p_list
  have l_p_list := o_p_list.lt
  go_wp2_with fail
  refine (CS.out A_p_list n_list c_p_list _ (Rd.of_own o_p_list) (by unfold maxLen; omega)).mono ?_
  rintro e w2 ⟨v_sp, rfl, o_sp, b2⟩
  have B2 := B1.trans (b2.mono B1.size)
  rw [← HM.out] at o_sp
  obtain ⟨A_sp, c_sp, rfl, _, _⟩ := own_form o_sp
  have l_sp := o_sp.lt
  have o_p_list := own_below o_p_list b2
  go_wp2_with fail
  refine (toTermS_any A_list n_list c_list L_list _ ((r_list.below B2).more B2.size) hn_list).mono ?_
  rintro e w3 ⟨v_x_list, rfl, o_x_list, b3⟩
  have B3 := B2.trans (b3.mono B2.size)
  rw [hl_list.out] at o_x_list
  obtain ⟨A_x_list, c_x_list, rfl, _, _⟩ := own_form o_x_list
  have l_x_list := o_x_list.lt
  have o_sp := own_below o_sp b3
  go_wp2_with fail
  refine (CI.out A_x_list n_list c_x_list _ (Rd.of_own o_x_list) (by unfold maxLen; omega)).mono ?_
  rintro e w4 ⟨v_im, rfl, o_im, b4⟩
  have B4 := B3.trans (b4.mono B3.size)
  rw [← HM.out] at o_im
  obtain ⟨A_im, c_im, rfl, _, _⟩ := own_form o_im
  have l_im := o_im.lt
  have o_sp := own_below o_sp b4
  have o_x_list := own_below o_x_list b4
  go_wp2_with fail
  refine (eqIntS_same A_im A_sp m c_im c_sp f _ (Rd.of_own o_im) (Rd.of_own o_sp) (by unfold maxLen; omega)).mono ?_
  rintro e w5 ⟨rfl, b5⟩
  have B5 := B4.trans (b5.mono B4.size)
  have o_sp := own_below o_sp b5
  have o_x_list := own_below o_x_list b5
  have o_im := own_below o_im b5
  go_wp2_with fail
  refine (toTermS_any A_list n_list c_list L_list _ ((r_list.below B5).more B5.size) hn_list).mono ?_
  rintro e w6 ⟨v_y_list, rfl, o_y_list, b6⟩
  have B6 := B5.trans (b6.mono B5.size)
  rw [hl_list.out] at o_y_list
  obtain ⟨A_y_list, c_y_list, rfl, _, _⟩ := own_form o_y_list
  have l_y_list := o_y_list.lt
  have o_sp := own_below o_sp b6
  have o_x_list := own_below o_x_list b6
  have o_im := own_below o_im b6
  go_wp2_with fail
  refine (eqTermS_same A_x_list A_y_list n_list c_x_list c_y_list L_list _ (Rd.of_own o_x_list) (Rd.of_own o_y_list) hn_list).mono ?_
  rintro e w7 ⟨rfl, b7⟩
  have B7 := B6.trans (b7.mono B6.size)
  have o_sp := own_below o_sp b7
  have o_x_list := own_below o_x_list b7
  have o_im := own_below o_im b7
  have o_y_list := own_below o_y_list b7
  -- marks
  have sz1 := b1.size
  have sz2 := b2.size
  have sz3 := b3.size
  have sz4 := b4.size
  have sz5 := b5.size
  have sz6 := b6.size
  have sz7 := b7.size
  go_wp2_with fail
  refine (markTermS_any _ A_x_list n_list c_x_list _ 1 _ o_x_list (by omega) (by omega) (by omega)).mono ?_
  rintro e w8 ⟨rfl, g8⟩
  have B8 := B7.trans (grown_below g8 B7.size (fun k hk => by have := l_x_list k hk; have := B2.size; omega))
  have o_sp := o_sp.kept g8 (ne_of_ranges l_sp l_x_list (.inl (Nat.le_refl _)))
  have o_im := o_im.kept g8 (ne_of_ranges l_im l_x_list (.inr (Nat.le_refl _)))
  have sz8 := g8.size
  go_wp2_with fail
  refine (eqIntS_same A_im A_sp m c_im c_sp f _ (Rd.of_own o_im) (Rd.of_own o_sp) (by unfold maxLen; omega)).mono ?_
  rintro e w9 ⟨rfl, b9⟩
  have B9 := B8.trans (b9.mono B8.size)
  have o_sp := own_below o_sp b9
  have o_im := own_below o_im b9
  have sz9 := b9.size
  go_wp2_with fail
  refine (markIntS_any _ A_im m c_im _ 1 _ o_im (by omega) (by omega) (by omega)).mono ?_
  rintro e w10 ⟨rfl, o_im, g10⟩
  have B10 := B9.trans (grown_below g10 B9.size (fun k hk => by have := l_im k hk; have := B3.size; omega))
  have o_sp := o_sp.kept g10 (ne_of_ranges l_sp l_im (.inl (by have := sz3; omega)))
  have sz10 := g10.size
  go_wp2_with fail
  refine (heldIntS_any A_im m c_im 1 _ (Rd.of_own o_im) (by omega) (by omega) (by omega)).mono ?_
  rintro e w11 ⟨rfl, b11⟩
  have B11 := B10.trans (b11.mono B10.size)
  have o_sp := own_below o_sp b11
  have o_im := own_below o_im b11
  go_wp2_with fail
  refine (toTermS_any A_list n_list c_list L_list _ ((r_list.below B11).more B11.size) hn_list).mono ?_
  rintro e w12 ⟨v_z_list, rfl, o_z_list, b12⟩
  have B12 := B11.trans (b12.mono B11.size)
  rw [hl_list.out] at o_z_list
  obtain ⟨A_z_list, c_z_list, rfl, _, _⟩ := own_form o_z_list
  have l_z_list := o_z_list.lt
  have o_sp := own_below o_sp b12
  have o_im := own_below o_im b12
  go_wp2_with fail
  refine (CI.out A_z_list n_list c_z_list _ (Rd.of_own o_z_list) (by unfold maxLen; omega)).mono ?_
  rintro e w13 ⟨v_h, rfl, o_h, b13⟩
  have B13 := B12.trans (b13.mono B12.size)
  rw [← HM.out] at o_h
  obtain ⟨A_h, c_h, rfl, _, _⟩ := own_form o_h
  have l_h := o_h.lt
  have o_sp := own_below o_sp b13
  have o_im := own_below o_im b13
  have o_z_list := own_below o_z_list b13
  go_wp2_with fail
  refine (eqIntS_same A_h A_sp m c_h c_sp f _ (Rd.of_own o_h) (Rd.of_own o_sp) (by unfold maxLen; omega)).mono ?_
  rintro e w14 ⟨rfl, b14⟩
  have B14 := B13.trans (b14.mono B13.size)
  have o_sp := own_below o_sp b14
  have o_im := own_below o_im b14
  have o_h := own_below o_h b14
  go_wp2_with fail
  refine (heldIntS_any A_im m c_im 1 _ (Rd.of_own o_im) (by omega) (by omega) (by omega)).mono ?_
  rintro e w15 ⟨rfl, b15⟩
  have B15 := B14.trans (b15.mono B14.size)
  have o_sp := own_below o_sp b15
  have o_im := own_below o_im b15
  have o_h := own_below o_h b15
  go_wp2
  go_ret
  exact ⟨rfl, B15⟩

set_option maxRecDepth 100000 in
theorem ul_lifted (os : Os) (started : os.Started) (H : Type) (enc : TypeId × Value → H) :
    ReturnsInHanded {} Try.checked os 10 .any (Rows.fnExactUsedBySpec.pre6 enc Try.prog Try.f10 Rows.fnExactUsedByRow.domain false) (Rows.fnExactUsedBySpec.post enc Try.prog Try.f10 false true false false) := by
  refine returnsInHanded_of_change (C := Try.checked) Try.own started (by kernel_rfl) Try.func10
    (ChangeSpec.witness6 (enc := enc) (C := Try.checked) false ⟨#[], #[.slice none 0 0, .int .i64 0], []⟩ 8 (by kernel_rfl) (by kernel_rfl) (by kernel_rfl) (by kernel_rfl)) ?_
  intro W base args ds gs before hval0 hW hcnd _
  have hval : ∀ (j : Nat) t v, Try.f10.params[j]? = some t → args[j]? = some v → Value.okWide Try.prog W .any base t v := hval0
  have hW' := hW
  obtain ⟨p, q, hA0, hV, rfl, hfz, hnd⟩ := hW
  have hA : DataW.TrodAll enc Try.prog W 0 (fun _ => true) true Try.f10.params.toList args.toList ds p := hA0
  rw [Try.params10] at hA hval
  obtain ⟨u0, u1, d0, d1, p0, p1, rfl, rfl, rfl, h0, h1⟩ := trodAll_two hA
  obtain ⟨rfl, rfl⟩ := trodVars_none hV
  have k0 := h0
  obtain ⟨A_list, n_list, c_list, L_list, rfl, hm_list, r_list⟩ := open_terms (hval 0 43 u0 rfl rfl) h0
  obtain ⟨vars, rfl, rfl, rfl, wf1⟩ := open_int Try.underlying3 (hval 1 3 u1 rfl rfl) h1
  clear hA0 hval0
  simp only [List.append_nil] at hW'
  have hlt : ∀ x ∈ p0, x.block < W.heap.size := fun x hx => hW'.lt x (by simpa using hx)
  refine (ul_any A_list n_list c_list L_list vars W r_list hm_list).mono fun e W' ⟨he, hb⟩ => ?_
  subst he
  exact ⟨_, rfl, post_below (pa := p0 ++ ([])) (pv := []) hW' (fun _ _ _ => trodAll_mk1 (shut_bool Try.underlying4 _))
    (fun sp hsp => trodAll_mk2 (WideElems.Trod_stays Try.laidOut (by kernel_rfl) (of_decide_eq_true (by kernel_rfl)) k0 (fun x hx => hb.same (hlt x (by simp [hx]))) (fun x hx => hsp x (by simp [hx]))) (shut_int Try.underlying3 wf1)) (fun _ _ => rfl) (by simp)
    hb (ok_one (by kernel_rfl) rfl (okWide_bool_mk Try.underlying4 _))⟩

theorem ul_holds : Rows.FnExactUsedBySaid :=
  OpenClaim.holds_of_wide 10 Try.f10 rfl rfl rfl rfl rfl rfl rfl ⟨rfl, rfl, rfl, rfl, rfl⟩ rfl rfl rfl rfl rfl (by kernel_rfl) Try.func10 (by kernel_rfl)
    (of_decide_eq_true (by kernel_rfl)) (by unfold Func.isWrapper; first | (rw [if_pos (by decide +kernel)]; kernel_rfl) | (rw [if_neg (by decide +kernel)]; exact ⟨rfl, rfl⟩))
    (fun os started H enc _ => ul_lifted os started H enc)
end Go.Proofs.Ytmpclfjaddjelaa
