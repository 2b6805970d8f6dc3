/- For every input the law FnExactEval returns true: the function answers as its model, and writes into no argument. -/
import Derived.Test.YtmpclfjaddjelaaEvalS2
import Derived.Test.YtmpclfjaddjelaaLaw4
import Derived.Test.YtmpclfjaddjelaaOpen
import Derived.Test.YtmpclfjaddjelaaPost
namespace Go.Proofs.Ytmpclfjaddjelaa
open Go.ChangeShapes Go.WideShapes Go.ChangeAt Go.RowKit

theorem el_big0 (A_list : Option Addr) (n_list c_list : Nat) (A_state : Option Addr) (n_state c_state : Nat) (w : World) (hm_list : n_list ≤ maxLen) (hm_state : n_state ≤ maxLen)  (hb : 1048576 < n_state) :
    Calls Try.prog 9 #[.slice A_list n_list c_list, .slice A_state n_state c_state] w (GivesBool w true) := by
  have := hm_list; unfold maxLen at this
  have := hm_state; unfold maxLen at this
  go_enter Try.func9, Try.ntmps9
  go_wp2
  go_ret
  exact ⟨rfl, Below.refl _ _⟩

theorem el_big1 (A_list : Option Addr) (n_list c_list : Nat) (A_state : Option Addr) (n_state c_state : Nat) (w : World) (hm_list : n_list ≤ maxLen) (hm_state : n_state ≤ maxLen) (s0 : ¬ 1048576 < n_state) (hb : 1048576 < n_list) :
    Calls Try.prog 9 #[.slice A_list n_list c_list, .slice A_state n_state c_state] w (GivesBool w true) := by
  have := hm_list; unfold maxLen at this
  have := hm_state; unfold maxLen at this
  go_enter Try.func9, Try.ntmps9
  go_wp2_with fail
  refine (szTermS_any A_list n_list c_list 1048576 hm_list (by omega) (by omega) _).mono ?_
  rintro e w' ⟨rfl, rfl⟩
  rw [if_pos (by omega)]
  go_wp2
  go_ret
  exact ⟨rfl, Below.refl _ _⟩

set_option maxHeartbeats 8000000 in
theorem el_any (A_list : Option Addr) (n_list c_list : Nat) (L_list : List Tm) (A_state : Option Addr) (n_state c_state : Nat) (L_state : List Int) (w : World) (r_list : Rd w w.heap.size 4 A_list n_list (tms L_list)) (hm_list : n_list ≤ maxLen) (r_state : Rd w w.heap.size 1 A_state n_state (ints L_state)) (hm_state : n_state ≤ maxLen) :
    Calls Try.prog 9 #[.slice A_list n_list c_list, .slice A_state n_state c_state] w (GivesBool w true) := by
  by_cases s0 : 1048576 < n_state
  · exact el_big0 A_list n_list c_list A_state n_state c_state w hm_list hm_state  s0
  by_cases s1 : 1048576 < n_list
  · exact el_big1 A_list n_list c_list A_state n_state c_state w hm_list hm_state s0 s1
  have hl_list := Lib.hid r_list.tlen
  have hn_list : n_list ≤ 1048576 := by omega
  have hl_state := Lib.hid r_state.len
  have hn_state : n_state ≤ 1048576 := by omega
  have CS := @eval_spec
  have CI := @eval_impl
  replace CS := fun A n c A' n' c' => CS A n c A' n' c' L_list L_state
  replace CI := fun A n c A' n' c' => CI A n c A' n' c' L_list L_state
  generalize evalOk L_list L_state = g at CS CI
  generalize evalB L_list L_state = f at CS CI
  have CS := Lib.hid CS
  have CI := Lib.hid CI
  cases g
  all_goals
    go_enter Try.func9, Try.ntmps9
    go_wp2_with fail
    refine (szTermS_any A_list n_list c_list 1048576 hm_list (by omega) (by omega) _).mono ?_
    rintro e w' ⟨rfl, rfl⟩
    rw [if_neg (by omega)]
    go_wp2_with fail
    refine (toTermS_any A_list n_list c_list L_list _ r_list hn_list).mono ?_
    rintro e w1 ⟨v_p_list, rfl, o_p_list, b1⟩
    have B1 := b1
    rw [hl_list.out] at o_p_list
    obtain ⟨A_p_list, c_p_list, rfl, _, _⟩ := own_form o_p_list
    have l_p_list := o_p_list.lt
    go_wp2_with fail
    refine (toIntS_any A_state n_state c_state L_state _ ((r_state.below B1).more B1.size) hn_state).mono ?_
    rintro e w2 ⟨v_p_state, rfl, o_p_state, b2⟩
    have B2 := B1.trans (b2.mono B1.size)
    rw [hl_state.out] at o_p_state
    obtain ⟨A_p_state, c_p_state, rfl, _, _⟩ := own_form o_p_state
    have l_p_state := o_p_state.lt
    have o_p_list := own_below o_p_list b2
    go_wp2_with fail
    refine (CS.out A_p_list n_list c_p_list A_p_state n_state c_p_state _ (Rd.of_own o_p_list) (Rd.of_own o_p_state) (by unfold maxLen; omega) (by unfold maxLen; omega)).mono ?_
    rintro e w3 ⟨rfl, b3⟩
    have B3 := B2.trans (b3.mono B2.size)
    have o_p_list := own_below o_p_list b3
    have o_p_state := own_below o_p_state b3
    go_wp2_with fail
    refine (toTermS_any A_list n_list c_list L_list _ ((r_list.below B3).more B3.size) hn_list).mono ?_
    rintro e w4 ⟨v_x_list, rfl, o_x_list, b4⟩
    have B4 := B3.trans (b4.mono B3.size)
    rw [hl_list.out] at o_x_list
    obtain ⟨A_x_list, c_x_list, rfl, _, _⟩ := own_form o_x_list
    have l_x_list := o_x_list.lt
    go_wp2_with fail
    refine (toIntS_any A_state n_state c_state L_state _ ((r_state.below B4).more B4.size) hn_state).mono ?_
    rintro e w5 ⟨v_x_state, rfl, o_x_state, b5⟩
    have B5 := B4.trans (b5.mono B4.size)
    rw [hl_state.out] at o_x_state
    obtain ⟨A_x_state, c_x_state, rfl, _, _⟩ := own_form o_x_state
    have l_x_state := o_x_state.lt
    have o_x_list := own_below o_x_list b5
    go_wp2_with fail
    refine (CI.out A_x_list n_list c_x_list A_x_state n_state c_x_state _ (Rd.of_own o_x_list) (Rd.of_own o_x_state) (by unfold maxLen; omega) (by unfold maxLen; omega)).mono ?_
    rintro e w6 ⟨rfl, b6⟩
    have B6 := B5.trans (b6.mono B5.size)
    have o_x_list := own_below o_x_list b6
    have o_x_state := own_below o_x_state b6
    go_wp2_with fail
    refine (toTermS_any A_list n_list c_list L_list _ ((r_list.below B6).more B6.size) hn_list).mono ?_
    rintro e w7 ⟨v_y_list, rfl, o_y_list, b7⟩
    have B7 := B6.trans (b7.mono B6.size)
    rw [hl_list.out] at o_y_list
    obtain ⟨A_y_list, c_y_list, rfl, _, _⟩ := own_form o_y_list
    have l_y_list := o_y_list.lt
    have o_x_list := own_below o_x_list b7
    have o_x_state := own_below o_x_state b7
    go_wp2_with fail
    refine (eqTermS_same A_x_list A_y_list n_list c_x_list c_y_list L_list _ (Rd.of_own o_x_list) (Rd.of_own o_y_list) hn_list).mono ?_
    rintro e w8 ⟨rfl, b8⟩
    have B8 := B7.trans (b8.mono B7.size)
    have o_x_list := own_below o_x_list b8
    have o_x_state := own_below o_x_state b8
    have o_y_list := own_below o_y_list b8
    go_wp2_with fail
    refine (toIntS_any A_state n_state c_state L_state _ ((r_state.below B8).more B8.size) hn_state).mono ?_
    rintro e w9 ⟨v_y_state, rfl, o_y_state, b9⟩
    have B9 := B8.trans (b9.mono B8.size)
    rw [hl_state.out] at o_y_state
    obtain ⟨A_y_state, c_y_state, rfl, _, _⟩ := own_form o_y_state
    have l_y_state := o_y_state.lt
    have o_x_list := own_below o_x_list b9
    have o_x_state := own_below o_x_state b9
    go_wp2_with fail
    refine (eqIntS_same A_x_state A_y_state n_state c_x_state c_y_state L_state _ (Rd.of_own o_x_state) (Rd.of_own o_y_state) hm_state).mono ?_
    rintro e w10 ⟨rfl, b10⟩
    have B10 := B9.trans (b10.mono B9.size)
    have o_x_list := own_below o_x_list b10
    have o_x_state := own_below o_x_state b10
    have o_y_state := own_below o_y_state b10
    go_wp2
    go_ret
    exact ⟨rfl, B10⟩

set_option maxRecDepth 100000 in
theorem el_lifted (os : Os) (started : os.Started) (H : Type) (enc : TypeId × Value → H) :
    ReturnsInHanded {} Try.checked os 9 .any (Rows.fnExactEvalSpec.pre6 enc Try.prog Try.f9 Rows.fnExactEvalRow.domain false) (Rows.fnExactEvalSpec.post enc Try.prog Try.f9 false true false false) := by
  refine returnsInHanded_of_change (C := Try.checked) Try.own started (by kernel_rfl) Try.func9
    (ChangeSpec.witness6 (enc := enc) (C := Try.checked) false ⟨#[], #[.slice none 0 0, .slice none 0 0], []⟩ 8 (by kernel_rfl) (by kernel_rfl) (by kernel_rfl) (by kernel_rfl)) ?_
  intro W base args ds gs before hval0 hW hcnd _
  have hval : ∀ (j : Nat) t v, Try.f9.params[j]? = some t → args[j]? = some v → Value.okWide Try.prog W .any base t v := hval0
  have hW' := hW
  obtain ⟨p, q, hA0, hV, rfl, hfz, hnd⟩ := hW
  have hA : DataW.TrodAll enc Try.prog W 0 (fun _ => true) true Try.f9.params.toList args.toList ds p := hA0
  rw [Try.params9] at hA hval
  obtain ⟨u0, u1, d0, d1, p0, p1, rfl, rfl, rfl, h0, h1⟩ := trodAll_two hA
  obtain ⟨rfl, rfl⟩ := trodVars_none hV
  have k0 := h0
  obtain ⟨A_list, n_list, c_list, L_list, rfl, hm_list, r_list⟩ := open_terms (hval 0 43 u0 rfl rfl) h0
  have k1 := h1
  obtain ⟨A_state, n_state, c_state, L_state, rfl, hm_state, r_state⟩ := open_intS (hval 1 24 u1 rfl rfl) h1
  clear hA0 hval0
  simp only [List.append_nil] at hW'
  have hlt : ∀ x ∈ p0 ++ p1, x.block < W.heap.size := fun x hx => hW'.lt x (by simpa using hx)
  refine (el_any A_list n_list c_list L_list A_state n_state c_state L_state W r_list hm_list r_state hm_state).mono fun e W' ⟨he, hb⟩ => ?_
  subst he
  exact ⟨_, rfl, post_below (pa := p0 ++ (p1)) (pv := []) hW' (fun _ _ _ => trodAll_mk1 (shut_bool Try.underlying4 _))
    (fun sp hsp => trodAll_mk2 (WideElems.Trod_stays Try.laidOut (by kernel_rfl) (of_decide_eq_true (by kernel_rfl)) k0 (fun x hx => hb.same (hlt x (by simp [hx]))) (fun x hx => hsp x (by simp [hx]))) (WideElems.Trod_stays Try.laidOut (by kernel_rfl) (of_decide_eq_true (by kernel_rfl)) k1 (fun x hx => hb.same (hlt x (by simp [hx]))) (fun x hx => hsp x (by simp [hx])))) (fun _ _ => rfl) (by simp)
    hb (ok_one (by kernel_rfl) rfl (okWide_bool_mk Try.underlying4 _))⟩

theorem el_holds : Rows.FnExactEvalSaid :=
  OpenClaim.holds_of_wide 9 Try.f9 rfl rfl rfl rfl rfl rfl rfl ⟨rfl, rfl, rfl, rfl, rfl⟩ rfl rfl rfl rfl rfl (by kernel_rfl) Try.func9 (by kernel_rfl)
    (of_decide_eq_true (by kernel_rfl)) (by unfold Func.isWrapper; first | (rw [if_pos (by decide +kernel)]; kernel_rfl) | (rw [if_neg (by decide +kernel)]; exact ⟨rfl, rfl⟩))
    (fun os started H enc _ => el_lifted os started H enc)
end Go.Proofs.Ytmpclfjaddjelaa
