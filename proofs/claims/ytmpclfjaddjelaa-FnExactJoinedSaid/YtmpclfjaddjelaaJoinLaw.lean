/- For every input the law FnExactJoined returns true: the function answers as its model, and writes into no argument. -/
import Derived.Test.YtmpclfjaddjelaaJoinS
import Derived.Test.YtmpclfjaddjelaaLaw5
import Derived.Test.YtmpclfjaddjelaaOpen
import Derived.Test.YtmpclfjaddjelaaPost
namespace Go.Proofs.Ytmpclfjaddjelaa
open Go.ChangeShapes Go.WideShapes Go.ChangeAt Go.RowKit

theorem jl_big0 (op : Int) (A_a : Option Addr) (n_a c_a : Nat) (A_b : Option Addr) (n_b c_b : Nat) (vars : Int) (w : World) (hm_a : n_a ≤ maxLen) (hm_b : n_b ≤ maxLen)  (hb : 1048576 < n_a) :
    Calls Try.prog 11 #[.int .i64 op, .slice A_a n_a c_a, .slice A_b n_b c_b, .int .i64 vars] w (GivesBool w true) := by
  have := hm_a; unfold maxLen at this
  have := hm_b; unfold maxLen at this
  go_enter Try.func11, Try.ntmps11
  go_wp2_with fail
  refine (szTermS_any A_a n_a c_a 1048576 hm_a (by omega) (by omega) _).mono ?_
  rintro e w' ⟨rfl, rfl⟩
  rw [if_pos (by omega)]
  go_wp2
  go_ret
  exact ⟨rfl, Below.refl _ _⟩

theorem jl_big1 (op : Int) (A_a : Option Addr) (n_a c_a : Nat) (A_b : Option Addr) (n_b c_b : Nat) (vars : Int) (w : World) (hm_a : n_a ≤ maxLen) (hm_b : n_b ≤ maxLen) (s0 : ¬ 1048576 < n_a) (hb : 1048576 < n_a + n_b) :
    Calls Try.prog 11 #[.int .i64 op, .slice A_a n_a c_a, .slice A_b n_b c_b, .int .i64 vars] w (GivesBool w true) := by
  have := hm_a; unfold maxLen at this
  have := hm_b; unfold maxLen at this
  go_enter Try.func11, Try.ntmps11
  go_wp2_with fail
  refine (szTermS_any A_a n_a c_a 1048576 hm_a (by omega) (by omega) _).mono ?_
  rintro e w' ⟨rfl, rfl⟩
  rw [if_neg (by omega)]
  go_wp2_with fail
  refine (szTermS_any A_b n_b c_b (1048576 - n_a) hm_b (by omega) (by omega) _).mono ?_
  rintro e w' ⟨rfl, rfl⟩
  rw [if_pos (by omega)]
  go_wp2
  go_ret
  exact ⟨rfl, Below.refl _ _⟩

set_option maxHeartbeats 8000000 in
theorem jl_any (op : Int) (A_a : Option Addr) (n_a c_a : Nat) (L_a : List Tm) (A_b : Option Addr) (n_b c_b : Nat) (L_b : List Tm) (vars : Int) (w : World) (r_a : Rd w w.heap.size 4 A_a n_a (tms L_a)) (hm_a : n_a ≤ maxLen) (r_b : Rd w w.heap.size 4 A_b n_b (tms L_b)) (hm_b : n_b ≤ maxLen) :
    Calls Try.prog 11 #[.int .i64 op, .slice A_a n_a c_a, .slice A_b n_b c_b, .int .i64 vars] w (GivesBool w true) := by
  by_cases s0 : 1048576 < n_a
  · exact jl_big0 op A_a n_a c_a A_b n_b c_b vars w hm_a hm_b  s0
  by_cases s1 : 1048576 < n_a + n_b
  · exact jl_big1 op A_a n_a c_a A_b n_b c_b vars w hm_a hm_b s0 s1
  have hl_a := Lib.hid r_a.tlen
  have hn_a : n_a ≤ 1048576 := by omega
  have hl_b := Lib.hid r_b.tlen
  have hn_b : n_b ≤ 1048576 := by omega
  have CS := @joined_spec
  have CI := @joined_impl
  replace CS := fun A n c A' n' c' => CS A n c A' n' c' op L_a L_b vars
  replace CI := fun A n c A' n' c' => CI A n c A' n' c' op L_a L_b vars
  have hkl := joined_len op L_a L_b vars
  generalize joinedL op L_a L_b vars = f at CS CI hkl
  have CS := Lib.hid CS
  have CI := Lib.hid CI
  obtain ⟨m, hm⟩ : ∃ m, m = f.length := ⟨_, rfl⟩
  rw [← hm] at hkl
  have HM := Lib.hid hm
  clear hm
  go_enter Try.func11, Try.ntmps11
  go_wp2_with fail
  refine (szTermS_any A_a n_a c_a 1048576 hm_a (by omega) (by omega) _).mono ?_
  rintro e w' ⟨rfl, rfl⟩
  rw [if_neg (by omega)]
  go_wp2_with fail
  refine (szTermS_any A_b n_b c_b (1048576 - n_a) hm_b (by omega) (by omega) _).mono ?_
  rintro e w' ⟨rfl, rfl⟩
  rw [if_neg (by omega)]
  go_wp2_with fail
  refine (toTermS_any A_a n_a c_a L_a _ r_a hn_a).mono ?_
  rintro e w1 ⟨v_p_a, rfl, o_p_a, b1⟩
  have B1 := b1
  rw [hl_a.out] at o_p_a
  obtain ⟨A_p_a, c_p_a, rfl, _, _⟩ := own_form o_p_a
  have l_p_a := o_p_a.lt
  go_wp2_with fail
  refine (toTermS_any A_b n_b c_b L_b _ ((r_b.below B1).more B1.size) hn_b).mono ?_
  rintro e w2 ⟨v_p_b, rfl, o_p_b, b2⟩
  have B2 := B1.trans (b2.mono B1.size)
  rw [hl_b.out] at o_p_b
  obtain ⟨A_p_b, c_p_b, rfl, _, _⟩ := own_form o_p_b
  have l_p_b := o_p_b.lt
  have o_p_a := own_below o_p_a b2
  go_wp2_with fail
  refine (CS.out A_p_a n_a c_p_a A_p_b n_b c_p_b _ (Rd.of_own o_p_a) (Rd.of_own o_p_b) (by unfold maxLen; omega) (by unfold maxLen; omega)).mono ?_
  rintro e w3 ⟨v_sp, rfl, o_sp, b3⟩
  have B3 := B2.trans (b3.mono B2.size)
  rw [← HM.out] at o_sp
  obtain ⟨A_sp, c_sp, rfl, _, _⟩ := own_form o_sp
  have l_sp := o_sp.lt
  have o_p_a := own_below o_p_a b3
  have o_p_b := own_below o_p_b b3
  go_wp2_with fail
  refine (toTermS_any A_a n_a c_a L_a _ ((r_a.below B3).more B3.size) hn_a).mono ?_
  rintro e w4 ⟨v_x_a, rfl, o_x_a, b4⟩
  have B4 := B3.trans (b4.mono B3.size)
  rw [hl_a.out] at o_x_a
  obtain ⟨A_x_a, c_x_a, rfl, _, _⟩ := own_form o_x_a
  have l_x_a := o_x_a.lt
  have o_sp := own_below o_sp b4
  go_wp2_with fail
  refine (toTermS_any A_b n_b c_b L_b _ ((r_b.below B4).more B4.size) hn_b).mono ?_
  rintro e w5 ⟨v_x_b, rfl, o_x_b, b5⟩
  have B5 := B4.trans (b5.mono B4.size)
  rw [hl_b.out] at o_x_b
  obtain ⟨A_x_b, c_x_b, rfl, _, _⟩ := own_form o_x_b
  have l_x_b := o_x_b.lt
  have o_sp := own_below o_sp b5
  have o_x_a := own_below o_x_a b5
  go_wp2_with fail
  refine (CI.out A_x_a n_a c_x_a A_x_b n_b c_x_b _ (Rd.of_own o_x_a) (Rd.of_own o_x_b) (by unfold maxLen; omega) (by unfold maxLen; omega)).mono ?_
  rintro e w6 ⟨v_im, rfl, o_im, b6⟩
  have B6 := B5.trans (b6.mono B5.size)
  rw [← HM.out] at o_im
  obtain ⟨A_im, c_im, rfl, _, _⟩ := own_form o_im
  have l_im := o_im.lt
  have o_sp := own_below o_sp b6
  have o_x_a := own_below o_x_a b6
  have o_x_b := own_below o_x_b b6
  go_wp2_with fail
  refine (eqTermS_same A_im A_sp m c_im c_sp f _ (Rd.of_own o_im) (Rd.of_own o_sp) (by omega)).mono ?_
  rintro e w7 ⟨rfl, b7⟩
  have B7 := B6.trans (b7.mono B6.size)
  have o_sp := own_below o_sp b7
  have o_x_a := own_below o_x_a b7
  have o_x_b := own_below o_x_b b7
  have o_im := own_below o_im b7
  go_wp2_with fail
  refine (toTermS_any A_a n_a c_a L_a _ ((r_a.below B7).more B7.size) hn_a).mono ?_
  rintro e w8 ⟨v_y_a, rfl, o_y_a, b8⟩
  have B8 := B7.trans (b8.mono B7.size)
  rw [hl_a.out] at o_y_a
  obtain ⟨A_y_a, c_y_a, rfl, _, _⟩ := own_form o_y_a
  have l_y_a := o_y_a.lt
  have o_sp := own_below o_sp b8
  have o_x_a := own_below o_x_a b8
  have o_x_b := own_below o_x_b b8
  have o_im := own_below o_im b8
  go_wp2_with fail
  refine (eqTermS_same A_x_a A_y_a n_a c_x_a c_y_a L_a _ (Rd.of_own o_x_a) (Rd.of_own o_y_a) hn_a).mono ?_
  rintro e w9 ⟨rfl, b9⟩
  have B9 := B8.trans (b9.mono B8.size)
  have o_sp := own_below o_sp b9
  have o_x_a := own_below o_x_a b9
  have o_x_b := own_below o_x_b b9
  have o_im := own_below o_im b9
  have o_y_a := own_below o_y_a b9
  go_wp2_with fail
  refine (toTermS_any A_b n_b c_b L_b _ ((r_b.below B9).more B9.size) hn_b).mono ?_
  rintro e w10 ⟨v_y_b, rfl, o_y_b, b10⟩
  have B10 := B9.trans (b10.mono B9.size)
  rw [hl_b.out] at o_y_b
  obtain ⟨A_y_b, c_y_b, rfl, _, _⟩ := own_form o_y_b
  have l_y_b := o_y_b.lt
  have o_sp := own_below o_sp b10
  have o_x_a := own_below o_x_a b10
  have o_x_b := own_below o_x_b b10
  have o_im := own_below o_im b10
  go_wp2_with fail
  refine (eqTermS_same A_x_b A_y_b n_b c_x_b c_y_b L_b _ (Rd.of_own o_x_b) (Rd.of_own o_y_b) hn_b).mono ?_
  rintro e w11 ⟨rfl, b11⟩
  have B11 := B10.trans (b11.mono B10.size)
  have o_sp := own_below o_sp b11
  have o_x_a := own_below o_x_a b11
  have o_x_b := own_below o_x_b b11
  have o_im := own_below o_im b11
  have o_y_b := own_below o_y_b b11
  -- marks
  have sz1 := b1.size
  have sz2 := b2.size
  have sz3 := b3.size
  have sz4 := b4.size
  have sz5 := b5.size
  have sz6 := b6.size
  have sz7 := b7.size
  have sz8 := b8.size
  have sz9 := b9.size
  have sz10 := b10.size
  have sz11 := b11.size
  go_wp2_with fail
  refine (markTermS_any _ A_x_a n_a c_x_a _ 1 _ o_x_a (by omega) (by omega) (by omega)).mono ?_
  rintro e w12 ⟨rfl, g12⟩
  have B12 := B11.trans (grown_below g12 B11.size (fun k hk => by have := l_x_a k hk; have := B3.size; omega))
  have o_sp := o_sp.kept g12 (ne_of_ranges l_sp l_x_a (.inl (Nat.le_refl _)))
  have o_x_b := o_x_b.kept g12 (ne_of_ranges l_x_b l_x_a (.inr (Nat.le_refl _)))
  have o_im := o_im.kept g12 (ne_of_ranges l_im l_x_a (.inr (by have := sz5; omega)))
  have sz12 := g12.size
  -- marks
  go_wp2_with fail
  refine (markTermS_any _ A_x_b n_b c_x_b _ (1 + 4 * n_a) _ o_x_b (by omega) (by omega) (by omega)).mono ?_
  rintro e w13 ⟨rfl, g13⟩
  have B13 := B12.trans (grown_below g13 B12.size (fun k hk => by have := l_x_b k hk; have := B4.size; omega))
  have o_sp := o_sp.kept g13 (ne_of_ranges l_sp l_x_b (.inl (by have := sz4; omega)))
  have o_im := o_im.kept g13 (ne_of_ranges l_im l_x_b (.inr (Nat.le_refl _)))
  have sz13 := g13.size
  go_wp2_with fail
  refine (eqTermS_same A_im A_sp m c_im c_sp f _ (Rd.of_own o_im) (Rd.of_own o_sp) (by omega)).mono ?_
  rintro e w14 ⟨rfl, b14⟩
  have B14 := B13.trans (b14.mono B13.size)
  have o_sp := own_below o_sp b14
  have o_im := own_below o_im b14
  have sz14 := b14.size
  go_wp2_with fail
  refine (markTermS2_any _ A_im m c_im _ 1 _ o_im (by omega) (by omega) (by omega)).mono ?_
  rintro e w15 ⟨rfl, o_im, g15⟩
  have B15 := B14.trans (grown_below g15 B14.size (fun k hk => by have := l_im k hk; have := B5.size; omega))
  have o_sp := o_sp.kept g15 (ne_of_ranges l_sp l_im (.inl (by have := sz4; have := sz5; omega)))
  have sz15 := g15.size
  go_wp2_with fail
  refine (heldTermS_any A_im m c_im 1 _ (Rd.of_own o_im) (by omega) (by omega) (by omega)).mono ?_
  rintro e w16 ⟨rfl, b16⟩
  have B16 := B15.trans (b16.mono B15.size)
  have o_sp := own_below o_sp b16
  have o_im := own_below o_im b16
  go_wp2_with fail
  refine (toTermS_any A_a n_a c_a L_a _ ((r_a.below B16).more B16.size) hn_a).mono ?_
  rintro e w17 ⟨v_z_a, rfl, o_z_a, b17⟩
  have B17 := B16.trans (b17.mono B16.size)
  rw [hl_a.out] at o_z_a
  obtain ⟨A_z_a, c_z_a, rfl, _, _⟩ := own_form o_z_a
  have l_z_a := o_z_a.lt
  have o_sp := own_below o_sp b17
  have o_im := own_below o_im b17
  go_wp2_with fail
  refine (toTermS_any A_b n_b c_b L_b _ ((r_b.below B17).more B17.size) hn_b).mono ?_
  rintro e w18 ⟨v_z_b, rfl, o_z_b, b18⟩
  have B18 := B17.trans (b18.mono B17.size)
  rw [hl_b.out] at o_z_b
  obtain ⟨A_z_b, c_z_b, rfl, _, _⟩ := own_form o_z_b
  have l_z_b := o_z_b.lt
  have o_sp := own_below o_sp b18
  have o_im := own_below o_im b18
  have o_z_a := own_below o_z_a b18
  go_wp2_with fail
  refine (CI.out A_z_a n_a c_z_a A_z_b n_b c_z_b _ (Rd.of_own o_z_a) (Rd.of_own o_z_b) (by unfold maxLen; omega) (by unfold maxLen; omega)).mono ?_
  rintro e w19 ⟨v_h, rfl, o_h, b19⟩
  have B19 := B18.trans (b19.mono B18.size)
  rw [← HM.out] at o_h
  obtain ⟨A_h, c_h, rfl, _, _⟩ := own_form o_h
  have l_h := o_h.lt
  have o_sp := own_below o_sp b19
  have o_im := own_below o_im b19
  have o_z_a := own_below o_z_a b19
  have o_z_b := own_below o_z_b b19
  go_wp2_with fail
  refine (eqTermS_same A_h A_sp m c_h c_sp f _ (Rd.of_own o_h) (Rd.of_own o_sp) (by omega)).mono ?_
  rintro e w20 ⟨rfl, b20⟩
  have B20 := B19.trans (b20.mono B19.size)
  have o_sp := own_below o_sp b20
  have o_im := own_below o_im b20
  have o_h := own_below o_h b20
  go_wp2_with fail
  refine (heldTermS_any A_im m c_im 1 _ (Rd.of_own o_im) (by omega) (by omega) (by omega)).mono ?_
  rintro e w21 ⟨rfl, b21⟩
  have B21 := B20.trans (b21.mono B20.size)
  have o_sp := own_below o_sp b21
  have o_im := own_below o_im b21
  have o_h := own_below o_h b21
  go_wp2
  go_ret
  exact ⟨rfl, B21⟩

set_option maxRecDepth 100000 in
theorem jl_lifted (os : Os) (started : os.Started) (H : Type) (enc : TypeId × Value → H) :
    ReturnsInHanded {} Try.checked os 11 .any (Rows.fnExactJoinedSpec.pre6 enc Try.prog Try.f11 Rows.fnExactJoinedRow.domain false) (Rows.fnExactJoinedSpec.post enc Try.prog Try.f11 false true false false) := by
  refine returnsInHanded_of_change (C := Try.checked) Try.own started (by kernel_rfl) Try.func11
    (ChangeSpec.witness6 (enc := enc) (C := Try.checked) false ⟨#[], #[.int .i64 0, .slice none 0 0, .slice none 0 0, .int .i64 0], []⟩ 8 (by kernel_rfl) (by kernel_rfl) (by kernel_rfl) (by kernel_rfl)) ?_
  intro W base args ds gs before hval0 hW hcnd _
  have hval : ∀ (j : Nat) t v, Try.f11.params[j]? = some t → args[j]? = some v → Value.okWide Try.prog W .any base t v := hval0
  have hW' := hW
  obtain ⟨p, q, hA0, hV, rfl, hfz, hnd⟩ := hW
  have hA : DataW.TrodAll enc Try.prog W 0 (fun _ => true) true Try.f11.params.toList args.toList ds p := hA0
  rw [Try.params11] at hA hval
  obtain ⟨u0, u1, u2, u3, d0, d1, d2, d3, p0, p1, p2, p3, rfl, rfl, rfl, h0, h1, h2, h3⟩ := trodAll_four hA
  obtain ⟨rfl, rfl⟩ := trodVars_none hV
  obtain ⟨op, rfl, rfl, rfl, wf0⟩ := open_int Try.underlying3 (hval 0 3 u0 rfl rfl) h0
  have k1 := h1
  obtain ⟨A_a, n_a, c_a, L_a, rfl, hm_a, r_a⟩ := open_terms (hval 1 43 u1 rfl rfl) h1
  have k2 := h2
  obtain ⟨A_b, n_b, c_b, L_b, rfl, hm_b, r_b⟩ := open_terms (hval 2 43 u2 rfl rfl) h2
  obtain ⟨vars, rfl, rfl, rfl, wf3⟩ := open_int Try.underlying3 (hval 3 3 u3 rfl rfl) h3
  clear hA0 hval0
  simp only [List.append_nil] at hW'
  have hlt : ∀ x ∈ p1 ++ p2, x.block < W.heap.size := fun x hx => hW'.lt x (by simpa using hx)
  refine (jl_any op A_a n_a c_a L_a A_b n_b c_b L_b vars W r_a hm_a r_b hm_b).mono fun e W' ⟨he, hb⟩ => ?_
  subst he
  exact ⟨_, rfl, post_below (pa := [] ++ (p1 ++ (p2 ++ ([])))) (pv := []) hW' (fun _ _ _ => trodAll_mk1 (shut_bool Try.underlying4 _))
    (fun sp hsp => trodAll_mk4 (shut_int Try.underlying3 wf0) (WideElems.Trod_stays Try.laidOut (by kernel_rfl) (of_decide_eq_true (by kernel_rfl)) k1 (fun x hx => hb.same (hlt x (by simp [hx]))) (fun x hx => hsp x (by simp [hx]))) (WideElems.Trod_stays Try.laidOut (by kernel_rfl) (of_decide_eq_true (by kernel_rfl)) k2 (fun x hx => hb.same (hlt x (by simp [hx]))) (fun x hx => hsp x (by simp [hx]))) (shut_int Try.underlying3 wf3)) (fun _ _ => rfl) (by simp)
    hb (ok_one (by kernel_rfl) rfl (okWide_bool_mk Try.underlying4 _))⟩

theorem jl_holds : Rows.FnExactJoinedSaid :=
  OpenClaim.holds_of_wide 11 Try.f11 rfl rfl rfl rfl rfl rfl rfl ⟨rfl, rfl, rfl, rfl, rfl⟩ rfl rfl rfl rfl rfl (by kernel_rfl) Try.func11 (by kernel_rfl)
    (of_decide_eq_true (by kernel_rfl)) (by unfold Func.isWrapper; first | (rw [if_pos (by decide +kernel)]; kernel_rfl) | (rw [if_neg (by decide +kernel)]; exact ⟨rfl, rfl⟩))
    (fun os started H enc _ => jl_lifted os started H enc)
end Go.Proofs.Ytmpclfjaddjelaa
