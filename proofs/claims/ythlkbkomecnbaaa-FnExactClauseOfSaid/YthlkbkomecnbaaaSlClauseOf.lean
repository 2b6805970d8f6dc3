/- For every input the law FnExactClauseOf returns true: the function answers as its model, and writes into no argument. -/
import Derived.Test.YthlkbkomecnbaaaKoI
import Derived.Test.YthlkbkomecnbaaaKoS
import Derived.Test.YthlkbkomecnbaaaIl
import Derived.Test.YthlkbkomecnbaaaEqSy
import Derived.Test.YthlkbkomecnbaaaOpenSy
import Derived.Test.YthlkbkomecnbaaaOpenSy
import Derived.Deep.RegionHeld3
namespace Go.Proofs.Ythlkbkomecnbaaa
open Go.ChangeShapes Go.WideShapes Go.ChangeAt Go.RowKit

theorem slClauseOf_box {w : World} {v1 v2 : Value} (t : TypeId) : ∀ W, Below (w.alloc (.cells #[v1, v2] t)).heap.size (w.alloc (.cells #[v1, v2] t)) W →
    Below w.heap.size w W ∧ W.cell? ⟨w.heap.size, 0, none⟩ = some v1 ∧ W.cell? ⟨w.heap.size, 1, none⟩ = some v2 ∧ w.heap.size < W.heap.size :=
  fun W hW => ⟨below_call hW, ((ci_blk w _ _).below hW (by simp)).cell 0, ((ci_blk w _ _).below hW (by simp)).cell 1, by have := hW.size; simp at this; omega⟩

set_option maxRecDepth 100000 in
set_option maxHeartbeats 8000000 in
theorem slClauseOf_any (l : List Int) (a : Int) (A_l0 : Option Addr) (n_l0 c_l0 : Nat) (w : World) (h_l0 : Mem.rd w w.heap.size [.slice A_l0 n_l0 c_l0] l) :
    Calls Try.prog 5 #[.slice A_l0 n_l0 c_l0, .int .i64 a] w (GivesBool w true) := by
  have m_l0 := rd_max h_l0
  unfold maxLen at m_l0
  by_cases big_l : 1048576 < n_l0
  · go_enter Try.func5, Try.ntmps5
    go_wp2
    go_ret
    exact ⟨rfl, by first | exact Below.refl _ _ | exact below_alloc _ _ | exact (below_alloc _ _).trans ((below_alloc _ _).mono (by simp))⟩
  have i_l : n_l0 ≤ 1048576 := by omega
  have sz_l : l.length ≤ 1048576 := by rw [rd_len h_l0]; exact i_l
  have CS := Lib.hid (fun A_l0' n_l0' c_l0' w h_l0' => clauseOf_spec l a A_l0' n_l0' c_l0' w h_l0' sz_l)
  have CI := Lib.hid (fun A_l0' n_l0' c_l0' w h_l0' => clauseOf_impl l a A_l0' n_l0' c_l0' w h_l0' sz_l)
  have bF0 := clauseB_len l a
  generalize clauseB l a = F0 at CS CI bF0
  generalize clauseOkB l a = F1 at CS CI
  have nz1 : (F1 != F1) = false := by simp
  obtain ⟨m0, hm0⟩ : ∃ m, m = F0.length := ⟨_, rfl⟩
  rw [← hm0] at bF0
  have HM0 := Lib.hid hm0
  clear hm0
  obtain ⟨mk_l, HM_l, hk_l⟩ : ∃ m : Nat, Hid (m = l.length) ∧ m ≤ 1048576 := ⟨_, Lib.hid rfl, sz_l⟩
  go_enter Try.func5, Try.ntmps5
  go_wp2_with fail
  refine (toIntS_M A_l0 n_l0 c_l0 l _ h_l0 i_l).mono ?_
  rintro e w1 ⟨pA_l0, pn_l0, pc_l0, pf_l0, rfl, po_l0, pnd_l, plo_l, b1⟩
  have k := b1
  have B := k
  have plo_l_hi := Mem.own_lt po_l0
  have slo_k := k.size
  go_wp2_with fail
  refine (CS.out pA_l0 pn_l0 pc_l0  _ (Mem.own_rd po_l0)).mono ?_
  rintro e w2 ⟨sA0, sn0, sc0, sf0, rfl, so0, snd, slo, b2⟩
  have sb2 := b2.size
  have k := k.trans (b2.mono k.size)
  have po_l0 := Mem.own_below po_l0 b2
  have B := k
  have slo_hi := Mem.own_lt so0
  have xlo_l_k := k.size
  go_wp2_with fail
  refine (toIntS_M A_l0 n_l0 c_l0 l _ (Mem.rd_on h_l0 B) i_l).mono ?_
  rintro e w3 ⟨xA_l0, xn_l0, xc_l0, xf_l0, rfl, xo_l0, xnd_l, xlo_l, b3⟩
  have sb3 := b3.size
  have k := k.trans (b3.mono k.size)
  have so0 := Mem.own_below so0 b3
  have B := k
  have xlo_l_hi := Mem.own_lt xo_l0
  have glo_k := k.size
  go_wp2_with fail
  refine (CI.out xA_l0 xn_l0 xc_l0  _ (Mem.own_rd xo_l0)).mono ?_
  rintro e w4 ⟨gA0, gn0, gc0, gf0, rfl, go0, gnd, glo, b4⟩
  have sb4 := b4.size
  have k := k.trans (b4.mono k.size)
  have so0 := Mem.own_below so0 b4
  have xo_l0 := Mem.own_below xo_l0 b4
  have B := k
  have glo_hi := Mem.own_lt go0
  go_wp2_with fail
  refine (eqIntS_M gA0 sA0 gn0 gc0 sn0 sc0 F0 _ (Mem.own_rd go0) (Mem.own_rd so0)).mono ?_
  rintro e w5 ⟨rfl, b5⟩
  have sb5 := b5.size
  have k := k.trans (b5.mono k.size)
  have so0 := Mem.own_below so0 b5
  have xo_l0 := Mem.own_below xo_l0 b5
  have go0 := Mem.own_below go0 b5
  have B := k
  have elo_l_k := k.size
  go_wp2_with fail
  refine (toIntS_M A_l0 n_l0 c_l0 l _ (Mem.rd_on h_l0 B) i_l).mono ?_
  rintro e w6 ⟨eA_l0, en_l0, ec_l0, ef_l0, rfl, eo_l0, end_l, elo_l, b6⟩
  have sb6 := b6.size
  have k := k.trans (b6.mono k.size)
  have so0 := Mem.own_below so0 b6
  have xo_l0 := Mem.own_below xo_l0 b6
  have go0 := Mem.own_below go0 b6
  have B := k
  have elo_l_hi := Mem.own_lt eo_l0
  go_wp2_with fail
  refine (eqIntS_M xA_l0 eA_l0 xn_l0 xc_l0 en_l0 ec_l0 l _ (Mem.own_rd xo_l0) (Mem.own_rd eo_l0)).mono ?_
  rintro e w7 ⟨rfl, b7⟩
  have sb7 := b7.size
  have k := k.trans (b7.mono k.size)
  have so0 := Mem.own_below so0 b7
  have xo_l0 := Mem.own_below xo_l0 b7
  have go0 := Mem.own_below go0 b7
  have eo_l0 := Mem.own_below eo_l0 b7
  have B := k
  go_wp2_with fail
  refine (markIntS_M xA_l0 xn_l0 xc_l0 l xf_l0 (1) _ xo_l0 (by omega) (by omega) sz_l).mono ?_
  rintro e w8 ⟨rfl, b8⟩
  have sb8 := b8.size
  have k := k.trans (b8.below (by have := k.size; omega) fun b hb => by have := xlo_l b hb; have := xlo_l_k; omega)
  have so0 := Mem.own_only so0 b8 fun b hb hc => by have := slo b hb; have := slo_hi b hb; have := xlo_l b hc; have := xlo_l_hi b hc; omega
  have go0 := Mem.own_only go0 b8 fun b hb hc => by have := glo b hb; have := glo_hi b hb; have := xlo_l b hc; have := xlo_l_hi b hc; omega
  have B := k
  rw [← HM_l.out]
  go_wp2_with fail
  refine (eqIntS_M gA0 sA0 gn0 gc0 sn0 sc0 F0 _ (Mem.own_rd go0) (Mem.own_rd so0)).mono ?_
  rintro e w9 ⟨rfl, b9⟩
  have sb9 := b9.size
  have k := k.trans (b9.mono k.size)
  have so0 := Mem.own_below so0 b9
  have go0 := Mem.own_below go0 b9
  have B := k
  go_wp2_with fail
  refine (markIntS_W gA0 gn0 gc0 F0 gf0 (1) _ go0 (by omega) (by omega) (by rw [← HM0.out]; omega)).mono ?_
  rintro e w10 ⟨rfl, go0, b10⟩
  have sb10 := b10.size
  have k := k.trans (b10.below (by have := k.size; omega) fun b hb => by have := glo b hb; have := glo_k; omega)
  have so0 := Mem.own_only so0 b10 fun b hb hc => by have := slo b hb; have := slo_hi b hb; have := glo b hc; have := glo_hi b hc; omega
  have B := k
  rw [← HM0.out] at go0 ⊢
  have nq : (1 + (m0 : Int) != 1 + (m0 : Int)) = false := by simp
  go_wp2_with fail
  refine (heldIntS_W gA0 gn0 gc0 (1) m0 _ (Mem.own_rd go0) (by omega) (by omega) (by omega)).mono ?_
  rintro e w11 ⟨rfl, b11⟩
  have sb11 := b11.size
  have k := k.trans (b11.mono k.size)
  have so0 := Mem.own_below so0 b11
  have go0 := Mem.own_below go0 b11
  have B := k
  have qlo_l_k := k.size
  go_wp2_with fail
  refine (toIntS_M A_l0 n_l0 c_l0 l _ (Mem.rd_on h_l0 B) i_l).mono ?_
  rintro e w12 ⟨qA_l0, qn_l0, qc_l0, qf_l0, rfl, qo_l0, qnd_l, qlo_l, b12⟩
  have sb12 := b12.size
  have k := k.trans (b12.mono k.size)
  have so0 := Mem.own_below so0 b12
  have go0 := Mem.own_below go0 b12
  have B := k
  have qlo_l_hi := Mem.own_lt qo_l0
  have hlo_k := k.size
  go_wp2_with fail
  refine (CI.out qA_l0 qn_l0 qc_l0  _ (Mem.own_rd qo_l0)).mono ?_
  rintro e w13 ⟨hA0, hn0, hc0, hf0, rfl, ho0, hnd, hlo, b13⟩
  have sb13 := b13.size
  have k := k.trans (b13.mono k.size)
  have so0 := Mem.own_below so0 b13
  have go0 := Mem.own_below go0 b13
  have qo_l0 := Mem.own_below qo_l0 b13
  have B := k
  have hlo_hi := Mem.own_lt ho0
  go_wp2_with fail
  refine (eqIntS_M hA0 sA0 hn0 hc0 sn0 sc0 F0 _ (Mem.own_rd ho0) (Mem.own_rd so0)).mono ?_
  rintro e w14 ⟨rfl, b14⟩
  have sb14 := b14.size
  have k := k.trans (b14.mono k.size)
  have so0 := Mem.own_below so0 b14
  have go0 := Mem.own_below go0 b14
  have ho0 := Mem.own_below ho0 b14
  have B := k
  go_wp2_with fail
  refine (heldIntS_W gA0 gn0 gc0 (1) m0 _ (Mem.own_rd go0) (by omega) (by omega) (by omega)).mono ?_
  rintro e w15 ⟨rfl, b15⟩
  have sb15 := b15.size
  have k := k.trans (b15.mono k.size)
  have so0 := Mem.own_below so0 b15
  have go0 := Mem.own_below go0 b15
  have ho0 := Mem.own_below ho0 b15
  have B := k
  go_wp2
  go_ret
  exact ⟨rfl, B⟩

set_option maxRecDepth 100000 in
theorem slClauseOf_lifted (os : Os) (started : os.Started) (H : Type) (enc : TypeId × Value → H) :
    ReturnsInHanded {} Try.checked os 5 .any (Rows.fnExactClauseOfSpec.pre6 enc Try.prog Try.f5 Rows.fnExactClauseOfRow.domain false) (Rows.fnExactClauseOfSpec.post enc Try.prog Try.f5 false true false false) := by
  refine returnsInHanded_of_change (C := Try.checked) Try.own started (by kernel_rfl) Try.func5
    (ChangeSpec.witness6 (enc := enc) (C := Try.checked) false ⟨#[], #[.slice none 0 0, .int .i64 0], []⟩ 8 (by kernel_rfl) (by kernel_rfl) (by kernel_rfl) (by kernel_rfl)) ?_
  intro W base args ds gs before hval0 hW hcnd _
  have hval : ∀ (j : Nat) t v, Try.f5.params[j]? = some t → args[j]? = some v → Value.okWide Try.prog W .any base t v := hval0
  have hW' := hW
  have hW2 := hW
  obtain ⟨p, q, hA0, hV, rfl, hfz, hnd⟩ := hW2
  have hA : DataW.TrodAll enc Try.prog W 0 (fun _ => true) true Try.f5.params.toList args.toList ds p := hA0
  rw [Try.params5] at hA hval
  obtain ⟨u0, u1, d0, d1, p0, p1, rfl, rfl, rfl, h0, h1⟩ := trodAll_two hA
  obtain ⟨rfl, rfl⟩ := trodVars_none hV
  have k0 := h0
  obtain ⟨A_l0, n_l0, c_l0, l, rfl, mm0, rr0⟩ := open_intS (hval 0 22 u0 rfl rfl) h0
  obtain ⟨a, rfl, rfl, rfl, wf1⟩ := open_int Try.underlying3 (hval 1 3 u1 rfl rfl) h1
  clear hA0 hval0
  simp only [List.append_nil] at hW'
  have hlt : ∀ x ∈ p0, x.block < W.heap.size := fun x hx => hW'.lt x (by simpa using hx)
  refine (slClauseOf_any l a A_l0 n_l0 c_l0 W (rd_ints.2 ⟨mm0, rr0⟩)).mono fun e W' ⟨he, hb⟩ => ?_
  subst he
  exact ⟨_, rfl, post_below (pa := p0 ++ ([])) (pv := []) hW' (fun _ _ _ => trodAll_mk1 (shut_bool Try.underlying4 _))
    (fun sp hsp => trodAll_mk2 (WideElems.Trod_stays Try.laidOut (by kernel_rfl) (of_decide_eq_true (by kernel_rfl)) k0 (fun x hx => hb.same (hlt x (by simp [hx]))) (fun x hx => hsp x (by simp [hx]))) (shut_int Try.underlying3 wf1)) (fun _ _ => rfl) (by simp)
    hb (ok_one (by kernel_rfl) rfl (okWide_bool_mk Try.underlying4 _))⟩

theorem slClauseOf_holds : Rows.FnExactClauseOfSaid :=
  OpenClaim.holds_of_wide 5 Try.f5 rfl rfl rfl rfl rfl rfl rfl ⟨rfl, rfl, rfl, rfl, rfl⟩ rfl rfl rfl rfl rfl (by kernel_rfl) Try.func5 (by kernel_rfl)
    (of_decide_eq_true (by kernel_rfl)) (by unfold Func.isWrapper; first | (rw [if_pos (by decide +kernel)]; kernel_rfl) | (rw [if_neg (by decide +kernel)]; exact ⟨rfl, rfl⟩))
    (fun os started H enc _ => slClauseOf_lifted os started H enc)
end Go.Proofs.Ythlkbkomecnbaaa
