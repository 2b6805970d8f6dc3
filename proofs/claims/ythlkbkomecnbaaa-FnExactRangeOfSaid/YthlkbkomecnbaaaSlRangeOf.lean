/- For every input the law FnExactRangeOf returns true: the function answers as its model, and writes into no argument. -/
import Derived.Test.YthlkbkomecnbaaaRgJ
import Derived.Test.YthlkbkomecnbaaaRgV
import Derived.Test.YthlkbkomecnbaaaIl
import Derived.Test.YthlkbkomecnbaaaEqSy
import Derived.Test.YthlkbkomecnbaaaOpenSy
import Derived.Test.YthlkbkomecnbaaaOpenSy
import Derived.Deep.RegionHeld3
namespace Go.Proofs.Ythlkbkomecnbaaa
open Go.ChangeShapes Go.WideShapes Go.ChangeAt Go.RowKit

theorem slRangeOf_box {w : World} {v1 v2 : Value} (t : TypeId) : ∀ W, Below (w.alloc (.cells #[v1, v2] t)).heap.size (w.alloc (.cells #[v1, v2] t)) W →
    Below w.heap.size w W ∧ W.cell? ⟨w.heap.size, 0, none⟩ = some v1 ∧ W.cell? ⟨w.heap.size, 1, none⟩ = some v2 ∧ w.heap.size < W.heap.size :=
  fun W hW => ⟨below_call hW, ((ci_blk w _ _).below hW (by simp)).cell 0, ((ci_blk w _ _).below hW (by simp)).cell 1, by have := hW.size; simp at this; omega⟩

set_option maxRecDepth 100000 in
set_option maxHeartbeats 8000000 in
theorem slRangeOf_any (l : List Tm) (lo : List Int) (hi : List Int) (A_l0 : Option Addr) (n_l0 c_l0 : Nat) (A_lo0 : Option Addr) (n_lo0 c_lo0 : Nat) (A_hi0 : Option Addr) (n_hi0 c_hi0 : Nat) (w : World) (h_l0 : Mem.rd w w.heap.size [.slice A_l0 n_l0 c_l0] l) (h_lo0 : Mem.rd w w.heap.size [.slice A_lo0 n_lo0 c_lo0] lo) (h_hi0 : Mem.rd w w.heap.size [.slice A_hi0 n_hi0 c_hi0] hi) :
    Calls Try.prog 9 #[.slice A_l0 n_l0 c_l0, .slice A_lo0 n_lo0 c_lo0, .slice A_hi0 n_hi0 c_hi0] w (GivesBool w true) := by
  have m_l0 := rd_max h_l0
  have m_lo0 := rd_max h_lo0
  have m_hi0 := rd_max h_hi0
  unfold maxLen at m_l0 m_lo0 m_hi0
  by_cases big_lo : 1048576 < n_lo0
  · go_enter Try.func9, Try.ntmps9
    go_wp2
    go_ret
    exact ⟨rfl, by first | exact Below.refl _ _ | exact below_alloc _ _ | exact (below_alloc _ _).trans ((below_alloc _ _).mono (by simp))⟩
  by_cases big_hi : 1048576 < n_hi0
  · go_enter Try.func9, Try.ntmps9
    go_wp2
    go_ret
    exact ⟨rfl, by first | exact Below.refl _ _ | exact below_alloc _ _ | exact (below_alloc _ _).trans ((below_alloc _ _).mono (by simp))⟩
  by_cases big_l : 1048576 < (n_l0 : Int)
  · go_enter Try.func9, Try.ntmps9
    go_wp2_with fail
    refine (szTermS_M A_l0 n_l0 c_l0 (1048576) (rd_max h_l0) (by omega) (by omega) _).mono ?_
    rintro e v0 ⟨rfl, hw⟩
    subst hw
    rw [rest_no big_l]
    go_wp2
    go_ret
    exact ⟨rfl, by first | exact Below.refl _ _ | exact below_alloc _ _ | exact below_call k | exact below_call (below_call k) | exact k⟩
  have i_l : n_l0 ≤ 1048576 := by omega
  have sz_l : l.length ≤ 1048576 := by rw [rd_len h_l0]; exact i_l
  have i_lo : n_lo0 ≤ 1048576 := by omega
  have sz_lo : lo.length ≤ 1048576 := by rw [rd_len h_lo0]; exact i_lo
  have i_hi : n_hi0 ≤ 1048576 := by omega
  have sz_hi : hi.length ≤ 1048576 := by rw [rd_len h_hi0]; exact i_hi
  have CS := Lib.hid (fun A_l0' n_l0' c_l0' A_lo0' n_lo0' c_lo0' A_hi0' n_hi0' c_hi0' w h_l0' h_lo0' h_hi0' => rangeOf_spec l lo hi A_l0' n_l0' c_l0' A_lo0' n_lo0' c_lo0' A_hi0' n_hi0' c_hi0' w h_l0' h_lo0' h_hi0')
  have CI := Lib.hid (fun A_l0' n_l0' c_l0' A_lo0' n_lo0' c_lo0' A_hi0' n_hi0' c_hi0' w h_l0' h_lo0' h_hi0' => rangeOf_impl l lo hi A_l0' n_l0' c_l0' A_lo0' n_lo0' c_lo0' A_hi0' n_hi0' c_hi0' w h_l0' h_lo0' h_hi0')
  generalize rgLo l lo hi = F0 at CS CI
  have nz0 : (F0 != F0) = false := by simp
  generalize rgHi l lo hi = F1 at CS CI
  have nz1 : (F1 != F1) = false := by simp
  generalize rgOk l lo hi = F2 at CS CI
  have nz2 : (F2 != F2) = false := by simp
  go_enter Try.func9, Try.ntmps9
  go_wp2_with fail
  refine (szTermS_M A_l0 n_l0 c_l0 (1048576) (rd_max h_l0) (by omega) (by omega) _).mono ?_
  rintro e v0 ⟨rfl, hw⟩
  subst hw
  rw [rest_yes (by omega)]
  go_wp2_with fail
  refine (toTermS_M A_l0 n_l0 c_l0 l _ h_l0 i_l).mono ?_
  rintro e w1 ⟨pA_l0, pn_l0, pc_l0, pf_l0, rfl, po_l0, pnd_l, plo_l, b1⟩
  have k := b1
  have B := k
  have plo_l_hi := Mem.own_lt po_l0
  have plo_lo_k := k.size
  go_wp2_with fail
  refine (toIntS_M A_lo0 n_lo0 c_lo0 lo _ (Mem.rd_on h_lo0 B) i_lo).mono ?_
  rintro e w2 ⟨pA_lo0, pn_lo0, pc_lo0, pf_lo0, rfl, po_lo0, pnd_lo, plo_lo, b2⟩
  have sb2 := b2.size
  have k := k.trans (b2.mono k.size)
  have po_l0 := Mem.own_below po_l0 b2
  have B := k
  have plo_lo_hi := Mem.own_lt po_lo0
  have plo_hi_k := k.size
  go_wp2_with fail
  refine (toIntS_M A_hi0 n_hi0 c_hi0 hi _ (Mem.rd_on h_hi0 B) i_hi).mono ?_
  rintro e w3 ⟨pA_hi0, pn_hi0, pc_hi0, pf_hi0, rfl, po_hi0, pnd_hi, plo_hi, b3⟩
  have sb3 := b3.size
  have k := k.trans (b3.mono k.size)
  have po_l0 := Mem.own_below po_l0 b3
  have po_lo0 := Mem.own_below po_lo0 b3
  have B := k
  have plo_hi_hi := Mem.own_lt po_hi0
  go_wp2_with fail
  refine (CS.out pA_l0 pn_l0 pc_l0 pA_lo0 pn_lo0 pc_lo0 pA_hi0 pn_hi0 pc_hi0  _ (Mem.own_rd po_l0) (Mem.own_rd po_lo0) (Mem.own_rd po_hi0)).mono ?_
  rintro e w4 ⟨rfl, b4⟩
  have sb4 := b4.size
  have k := k.trans (b4.mono k.size)
  have po_l0 := Mem.own_below po_l0 b4
  have po_lo0 := Mem.own_below po_lo0 b4
  have po_hi0 := Mem.own_below po_hi0 b4
  have B := k
  have xlo_l_k := k.size
  go_wp2_with fail
  refine (toTermS_M A_l0 n_l0 c_l0 l _ (Mem.rd_on h_l0 B) i_l).mono ?_
  rintro e w5 ⟨xA_l0, xn_l0, xc_l0, xf_l0, rfl, xo_l0, xnd_l, xlo_l, b5⟩
  have sb5 := b5.size
  have k := k.trans (b5.mono k.size)
  have B := k
  have xlo_l_hi := Mem.own_lt xo_l0
  have xlo_lo_k := k.size
  go_wp2_with fail
  refine (toIntS_M A_lo0 n_lo0 c_lo0 lo _ (Mem.rd_on h_lo0 B) i_lo).mono ?_
  rintro e w6 ⟨xA_lo0, xn_lo0, xc_lo0, xf_lo0, rfl, xo_lo0, xnd_lo, xlo_lo, b6⟩
  have sb6 := b6.size
  have k := k.trans (b6.mono k.size)
  have xo_l0 := Mem.own_below xo_l0 b6
  have B := k
  have xlo_lo_hi := Mem.own_lt xo_lo0
  have xlo_hi_k := k.size
  go_wp2_with fail
  refine (toIntS_M A_hi0 n_hi0 c_hi0 hi _ (Mem.rd_on h_hi0 B) i_hi).mono ?_
  rintro e w7 ⟨xA_hi0, xn_hi0, xc_hi0, xf_hi0, rfl, xo_hi0, xnd_hi, xlo_hi, b7⟩
  have sb7 := b7.size
  have k := k.trans (b7.mono k.size)
  have xo_l0 := Mem.own_below xo_l0 b7
  have xo_lo0 := Mem.own_below xo_lo0 b7
  have B := k
  have xlo_hi_hi := Mem.own_lt xo_hi0
  go_wp2_with fail
  refine (CI.out xA_l0 xn_l0 xc_l0 xA_lo0 xn_lo0 xc_lo0 xA_hi0 xn_hi0 xc_hi0  _ (Mem.own_rd xo_l0) (Mem.own_rd xo_lo0) (Mem.own_rd xo_hi0)).mono ?_
  rintro e w8 ⟨rfl, b8⟩
  have sb8 := b8.size
  have k := k.trans (b8.mono k.size)
  have xo_l0 := Mem.own_below xo_l0 b8
  have xo_lo0 := Mem.own_below xo_lo0 b8
  have xo_hi0 := Mem.own_below xo_hi0 b8
  have B := k
  have elo_l_k := k.size
  go_wp2_with fail
  refine (toTermS_M A_l0 n_l0 c_l0 l _ (Mem.rd_on h_l0 B) i_l).mono ?_
  rintro e w9 ⟨eA_l0, en_l0, ec_l0, ef_l0, rfl, eo_l0, end_l, elo_l, b9⟩
  have sb9 := b9.size
  have k := k.trans (b9.mono k.size)
  have xo_l0 := Mem.own_below xo_l0 b9
  have xo_lo0 := Mem.own_below xo_lo0 b9
  have xo_hi0 := Mem.own_below xo_hi0 b9
  have B := k
  have elo_l_hi := Mem.own_lt eo_l0
  go_wp2_with fail
  refine (eqTermS_M xA_l0 eA_l0 xn_l0 xc_l0 en_l0 ec_l0 l _ (Mem.own_rd xo_l0) (Mem.own_rd eo_l0) sz_l).mono ?_
  rintro e w10 ⟨rfl, b10⟩
  have sb10 := b10.size
  have k := k.trans (b10.mono k.size)
  have xo_l0 := Mem.own_below xo_l0 b10
  have xo_lo0 := Mem.own_below xo_lo0 b10
  have xo_hi0 := Mem.own_below xo_hi0 b10
  have eo_l0 := Mem.own_below eo_l0 b10
  have B := k
  have elo_lo_k := k.size
  go_wp2_with fail
  refine (toIntS_M A_lo0 n_lo0 c_lo0 lo _ (Mem.rd_on h_lo0 B) i_lo).mono ?_
  rintro e w11 ⟨eA_lo0, en_lo0, ec_lo0, ef_lo0, rfl, eo_lo0, end_lo, elo_lo, b11⟩
  have sb11 := b11.size
  have k := k.trans (b11.mono k.size)
  have xo_l0 := Mem.own_below xo_l0 b11
  have xo_lo0 := Mem.own_below xo_lo0 b11
  have xo_hi0 := Mem.own_below xo_hi0 b11
  have B := k
  have elo_lo_hi := Mem.own_lt eo_lo0
  go_wp2_with fail
  refine (eqIntS_M xA_lo0 eA_lo0 xn_lo0 xc_lo0 en_lo0 ec_lo0 lo _ (Mem.own_rd xo_lo0) (Mem.own_rd eo_lo0)).mono ?_
  rintro e w12 ⟨rfl, b12⟩
  have sb12 := b12.size
  have k := k.trans (b12.mono k.size)
  have xo_l0 := Mem.own_below xo_l0 b12
  have xo_lo0 := Mem.own_below xo_lo0 b12
  have xo_hi0 := Mem.own_below xo_hi0 b12
  have eo_lo0 := Mem.own_below eo_lo0 b12
  have B := k
  have elo_hi_k := k.size
  go_wp2_with fail
  refine (toIntS_M A_hi0 n_hi0 c_hi0 hi _ (Mem.rd_on h_hi0 B) i_hi).mono ?_
  rintro e w13 ⟨eA_hi0, en_hi0, ec_hi0, ef_hi0, rfl, eo_hi0, end_hi, elo_hi, b13⟩
  have sb13 := b13.size
  have k := k.trans (b13.mono k.size)
  have xo_l0 := Mem.own_below xo_l0 b13
  have xo_lo0 := Mem.own_below xo_lo0 b13
  have xo_hi0 := Mem.own_below xo_hi0 b13
  have B := k
  have elo_hi_hi := Mem.own_lt eo_hi0
  go_wp2_with fail
  refine (eqIntS_M xA_hi0 eA_hi0 xn_hi0 xc_hi0 en_hi0 ec_hi0 hi _ (Mem.own_rd xo_hi0) (Mem.own_rd eo_hi0)).mono ?_
  rintro e w14 ⟨rfl, b14⟩
  have sb14 := b14.size
  have k := k.trans (b14.mono k.size)
  have xo_l0 := Mem.own_below xo_l0 b14
  have xo_lo0 := Mem.own_below xo_lo0 b14
  have xo_hi0 := Mem.own_below xo_hi0 b14
  have eo_hi0 := Mem.own_below eo_hi0 b14
  have B := k
  go_wp2
  go_ret
  exact ⟨rfl, B⟩

set_option maxRecDepth 100000 in
theorem slRangeOf_lifted (os : Os) (started : os.Started) (H : Type) (enc : TypeId × Value → H) :
    ReturnsInHanded {} Try.checked os 9 .any (Rows.fnExactRangeOfSpec.pre6 enc Try.prog Try.f9 Rows.fnExactRangeOfRow.domain false) (Rows.fnExactRangeOfSpec.post enc Try.prog Try.f9 false true false false) := by
  refine returnsInHanded_of_change (C := Try.checked) Try.own started (by kernel_rfl) Try.func9
    (ChangeSpec.witness6 (enc := enc) (C := Try.checked) false ⟨#[], #[.slice none 0 0, .slice none 0 0, .slice none 0 0], []⟩ 8 (by kernel_rfl) (by kernel_rfl) (by kernel_rfl) (by kernel_rfl)) ?_
  intro W base args ds gs before hval0 hW hcnd _
  have hval : ∀ (j : Nat) t v, Try.f9.params[j]? = some t → args[j]? = some v → Value.okWide Try.prog W .any base t v := hval0
  have hW' := hW
  have hW2 := hW
  obtain ⟨p, q, hA0, hV, rfl, hfz, hnd⟩ := hW2
  have hA : DataW.TrodAll enc Try.prog W 0 (fun _ => true) true Try.f9.params.toList args.toList ds p := hA0
  rw [Try.params9] at hA hval
  obtain ⟨u0, u1, u2, d0, d1, d2, p0, p1, p2, rfl, rfl, rfl, h0, h1, h2⟩ := trodAll_three hA
  obtain ⟨rfl, rfl⟩ := trodVars_none hV
  have k0 := h0
  obtain ⟨A_l0, n_l0, c_l0, l, rfl, mm0, rr0⟩ := open_terms (hval 0 56 u0 rfl rfl) h0
  have k1 := h1
  obtain ⟨A_lo0, n_lo0, c_lo0, lo, rfl, mm1, rr1⟩ := open_intS (hval 1 22 u1 rfl rfl) h1
  have k2 := h2
  obtain ⟨A_hi0, n_hi0, c_hi0, hi, rfl, mm2, rr2⟩ := open_intS (hval 2 22 u2 rfl rfl) h2
  clear hA0 hval0
  simp only [List.append_nil] at hW'
  have hlt : ∀ x ∈ p0 ++ p1 ++ p2, x.block < W.heap.size := fun x hx => hW'.lt x (by simpa using hx)
  refine (slRangeOf_any l lo hi A_l0 n_l0 c_l0 A_lo0 n_lo0 c_lo0 A_hi0 n_hi0 c_hi0 W (rd_tms.2 ⟨mm0, rr0⟩) (rd_ints.2 ⟨mm1, rr1⟩) (rd_ints.2 ⟨mm2, rr2⟩)).mono fun e W' ⟨he, hb⟩ => ?_
  subst he
  exact ⟨_, rfl, post_below (pa := p0 ++ (p1 ++ p2)) (pv := []) hW' (fun _ _ _ => trodAll_mk1 (shut_bool Try.underlying4 _))
    (fun sp hsp => trodAll_mk3 (WideElems.Trod_stays Try.laidOut (by kernel_rfl) (of_decide_eq_true (by kernel_rfl)) k0 (fun x hx => hb.same (hlt x (by simp [hx]))) (fun x hx => hsp x (by simp [hx]))) (WideElems.Trod_stays Try.laidOut (by kernel_rfl) (of_decide_eq_true (by kernel_rfl)) k1 (fun x hx => hb.same (hlt x (by simp [hx]))) (fun x hx => hsp x (by simp [hx]))) (WideElems.Trod_stays Try.laidOut (by kernel_rfl) (of_decide_eq_true (by kernel_rfl)) k2 (fun x hx => hb.same (hlt x (by simp [hx]))) (fun x hx => hsp x (by simp [hx])))) (fun _ _ => rfl) (by simp)
    hb (ok_one (by kernel_rfl) rfl (okWide_bool_mk Try.underlying4 _))⟩

theorem slRangeOf_holds : Rows.FnExactRangeOfSaid :=
  OpenClaim.holds_of_wide 9 Try.f9 rfl rfl rfl rfl rfl rfl rfl ⟨rfl, rfl, rfl, rfl, rfl⟩ rfl rfl rfl rfl rfl (by kernel_rfl) Try.func9 (by kernel_rfl)
    (of_decide_eq_true (by kernel_rfl)) (by unfold Func.isWrapper; first | (rw [if_pos (by decide +kernel)]; kernel_rfl) | (rw [if_neg (by decide +kernel)]; exact ⟨rfl, rfl⟩))
    (fun os started H enc _ => slRangeOf_lifted os started H enc)
end Go.Proofs.Ythlkbkomecnbaaa
