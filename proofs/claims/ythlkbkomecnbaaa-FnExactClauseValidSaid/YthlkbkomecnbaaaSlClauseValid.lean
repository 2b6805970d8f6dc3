/- For every input the law FnExactClauseValid returns true: the function answers as its model, and writes into no argument. -/
import Derived.Test.YthlkbkomecnbaaaKcI
import Derived.Test.YthlkbkomecnbaaaKcS
import Derived.Test.YthlkbkomecnbaaaIl
import Derived.Test.YthlkbkomecnbaaaEqSy
import Derived.Test.YthlkbkomecnbaaaOpenSy
import Derived.Test.YthlkbkomecnbaaaOpenSy
import Derived.Deep.RegionHeld3
namespace Go.Proofs.Ythlkbkomecnbaaa
open Go.ChangeShapes Go.WideShapes Go.ChangeAt Go.RowKit

theorem slClauseValid_box {w : World} {v1 v2 : Value} (t : TypeId) : ∀ W, Below (w.alloc (.cells #[v1, v2] t)).heap.size (w.alloc (.cells #[v1, v2] t)) W →
    Below w.heap.size w W ∧ W.cell? ⟨w.heap.size, 0, none⟩ = some v1 ∧ W.cell? ⟨w.heap.size, 1, none⟩ = some v2 ∧ w.heap.size < W.heap.size :=
  fun W hW => ⟨below_call hW, ((ci_blk w _ _).below hW (by simp)).cell 0, ((ci_blk w _ _).below hW (by simp)).cell 1, by have := hW.size; simp at this; omega⟩

set_option maxRecDepth 100000 in
set_option maxHeartbeats 8000000 in
theorem slClauseValid_any (l : List Int) (a : Int) (A_l0 : Option Addr) (n_l0 c_l0 : Nat) (w : World) (h_l0 : Mem.rd w w.heap.size [.slice A_l0 n_l0 c_l0] l) :
    Calls Try.prog 3 #[.slice A_l0 n_l0 c_l0, .int .i64 a] w (GivesBool w true) := by
  have m_l0 := rd_max h_l0
  unfold maxLen at m_l0
  by_cases big_l : 1048576 < n_l0
  · go_enter Try.func3, Try.ntmps3
    go_wp2
    go_ret
    exact ⟨rfl, by first | exact Below.refl _ _ | exact below_alloc _ _ | exact (below_alloc _ _).trans ((below_alloc _ _).mono (by simp))⟩
  have i_l : n_l0 ≤ 1048576 := by omega
  have sz_l : l.length ≤ 1048576 := by rw [rd_len h_l0]; exact i_l
  have CS := Lib.hid (fun A_l0' n_l0' c_l0' w h_l0' => clauseValid_spec l a A_l0' n_l0' c_l0' w h_l0')
  have CI := Lib.hid (fun A_l0' n_l0' c_l0' w h_l0' => clauseValid_impl l a A_l0' n_l0' c_l0' w h_l0')
  generalize cvB l a = F0 at CS CI
  have nz0 : (F0 != F0) = false := by simp
  go_enter Try.func3, Try.ntmps3
  go_wp2_with fail
  refine (toIntS_M A_l0 n_l0 c_l0 l _ h_l0 i_l).mono ?_
  rintro e w1 ⟨pA_l0, pn_l0, pc_l0, pf_l0, rfl, po_l0, pnd_l, plo_l, b1⟩
  have k := b1
  have B := k
  have plo_l_hi := Mem.own_lt po_l0
  go_wp2_with fail
  refine (CS.out pA_l0 pn_l0 pc_l0  _ (Mem.own_rd po_l0)).mono ?_
  rintro e w2 ⟨rfl, b2⟩
  have sb2 := b2.size
  have k := k.trans (b2.mono k.size)
  have po_l0 := Mem.own_below po_l0 b2
  have B := k
  have xlo_l_k := k.size
  go_wp2_with fail
  refine (toIntS_M A_l0 n_l0 c_l0 l _ (Mem.rd_on h_l0 B) i_l).mono ?_
  rintro e w3 ⟨xA_l0, xn_l0, xc_l0, xf_l0, rfl, xo_l0, xnd_l, xlo_l, b3⟩
  have sb3 := b3.size
  have k := k.trans (b3.mono k.size)
  have B := k
  have xlo_l_hi := Mem.own_lt xo_l0
  go_wp2_with fail
  refine (CI.out xA_l0 xn_l0 xc_l0  _ (Mem.own_rd xo_l0)).mono ?_
  rintro e w4 ⟨rfl, b4⟩
  have sb4 := b4.size
  have k := k.trans (b4.mono k.size)
  have xo_l0 := Mem.own_below xo_l0 b4
  have B := k
  have elo_l_k := k.size
  go_wp2_with fail
  refine (toIntS_M A_l0 n_l0 c_l0 l _ (Mem.rd_on h_l0 B) i_l).mono ?_
  rintro e w5 ⟨eA_l0, en_l0, ec_l0, ef_l0, rfl, eo_l0, end_l, elo_l, b5⟩
  have sb5 := b5.size
  have k := k.trans (b5.mono k.size)
  have xo_l0 := Mem.own_below xo_l0 b5
  have B := k
  have elo_l_hi := Mem.own_lt eo_l0
  go_wp2_with fail
  refine (eqIntS_M xA_l0 eA_l0 xn_l0 xc_l0 en_l0 ec_l0 l _ (Mem.own_rd xo_l0) (Mem.own_rd eo_l0)).mono ?_
  rintro e w6 ⟨rfl, b6⟩
  have sb6 := b6.size
  have k := k.trans (b6.mono k.size)
  have xo_l0 := Mem.own_below xo_l0 b6
  have eo_l0 := Mem.own_below eo_l0 b6
  have B := k
  go_wp2
  go_ret
  exact ⟨rfl, B⟩

set_option maxRecDepth 100000 in
theorem slClauseValid_lifted (os : Os) (started : os.Started) (H : Type) (enc : TypeId × Value → H) :
    ReturnsInHanded {} Try.checked os 3 .any (Rows.fnExactClauseValidSpec.pre6 enc Try.prog Try.f3 Rows.fnExactClauseValidRow.domain false) (Rows.fnExactClauseValidSpec.post enc Try.prog Try.f3 false true false false) := by
  refine returnsInHanded_of_change (C := Try.checked) Try.own started (by kernel_rfl) Try.func3
    (ChangeSpec.witness6 (enc := enc) (C := Try.checked) false ⟨#[], #[.slice none 0 0, .int .i64 0], []⟩ 8 (by kernel_rfl) (by kernel_rfl) (by kernel_rfl) (by kernel_rfl)) ?_
  intro W base args ds gs before hval0 hW hcnd _
  have hval : ∀ (j : Nat) t v, Try.f3.params[j]? = some t → args[j]? = some v → Value.okWide Try.prog W .any base t v := hval0
  have hW' := hW
  have hW2 := hW
  obtain ⟨p, q, hA0, hV, rfl, hfz, hnd⟩ := hW2
  have hA : DataW.TrodAll enc Try.prog W 0 (fun _ => true) true Try.f3.params.toList args.toList ds p := hA0
  rw [Try.params3] at hA hval
  obtain ⟨u0, u1, d0, d1, p0, p1, rfl, rfl, rfl, h0, h1⟩ := trodAll_two hA
  obtain ⟨rfl, rfl⟩ := trodVars_none hV
  have k0 := h0
  obtain ⟨A_l0, n_l0, c_l0, l, rfl, mm0, rr0⟩ := open_intS (hval 0 22 u0 rfl rfl) h0
  obtain ⟨a, rfl, rfl, rfl, wf1⟩ := open_int Try.underlying3 (hval 1 3 u1 rfl rfl) h1
  clear hA0 hval0
  simp only [List.append_nil] at hW'
  have hlt : ∀ x ∈ p0, x.block < W.heap.size := fun x hx => hW'.lt x (by simpa using hx)
  refine (slClauseValid_any l a A_l0 n_l0 c_l0 W (rd_ints.2 ⟨mm0, rr0⟩)).mono fun e W' ⟨he, hb⟩ => ?_
  subst he
  exact ⟨_, rfl, post_below (pa := p0 ++ ([])) (pv := []) hW' (fun _ _ _ => trodAll_mk1 (shut_bool Try.underlying4 _))
    (fun sp hsp => trodAll_mk2 (WideElems.Trod_stays Try.laidOut (by kernel_rfl) (of_decide_eq_true (by kernel_rfl)) k0 (fun x hx => hb.same (hlt x (by simp [hx]))) (fun x hx => hsp x (by simp [hx]))) (shut_int Try.underlying3 wf1)) (fun _ _ => rfl) (by simp)
    hb (ok_one (by kernel_rfl) rfl (okWide_bool_mk Try.underlying4 _))⟩

theorem slClauseValid_holds : Rows.FnExactClauseValidSaid :=
  OpenClaim.holds_of_wide 3 Try.f3 rfl rfl rfl rfl rfl rfl rfl ⟨rfl, rfl, rfl, rfl, rfl⟩ rfl rfl rfl rfl rfl (by kernel_rfl) Try.func3 (by kernel_rfl)
    (of_decide_eq_true (by kernel_rfl)) (by unfold Func.isWrapper; first | (rw [if_pos (by decide +kernel)]; kernel_rfl) | (rw [if_neg (by decide +kernel)]; exact ⟨rfl, rfl⟩))
    (fun os started H enc _ => slClauseValid_lifted os started H enc)
end Go.Proofs.Ythlkbkomecnbaaa
