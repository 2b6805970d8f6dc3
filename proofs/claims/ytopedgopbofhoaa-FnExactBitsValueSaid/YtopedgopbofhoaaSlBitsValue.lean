/- For every input the law FnExactBitsValue returns true: the function answers as its model, and writes into no argument. -/
import Derived.Test.YtopedgopbofhoaaBitU
import Derived.Test.YtopedgopbofhoaaBitS
import Derived.Test.YtopedgopbofhoaaIl
import Derived.Test.YtopedgopbofhoaaEqSy
import Derived.Test.YtopedgopbofhoaaOpenSy
import Derived.Test.YtopedgopbofhoaaOpenSy
import Derived.Deep.RegionHeld3
namespace Go.Proofs.Ytopedgopbofhoaa
open Go.ChangeShapes Go.WideShapes Go.ChangeAt Go.RowKit

theorem slBitsValue_box {w : World} {v1 v2 : Value} (t : TypeId) : ∀ W, Below (w.alloc (.cells #[v1, v2] t)).heap.size (w.alloc (.cells #[v1, v2] t)) W →
    Below w.heap.size w W ∧ W.cell? ⟨w.heap.size, 0, none⟩ = some v1 ∧ W.cell? ⟨w.heap.size, 1, none⟩ = some v2 ∧ w.heap.size < W.heap.size :=
  fun W hW => ⟨below_call hW, ((Blk.new w _ _).below hW (by simp)).cell 0, ((Blk.new w _ _).below hW (by simp)).cell 1, by have := hW.size; simp at this; omega⟩

set_option maxRecDepth 100000 in
set_option maxHeartbeats 8000000 in
theorem slBitsValue_any (b : List Int) (A_b0 : Option Addr) (n_b0 c_b0 : Nat) (w : World) (h_b0 : Mem.rd w w.heap.size [.slice A_b0 n_b0 c_b0] b) :
    Calls Try.prog 4 #[.slice A_b0 n_b0 c_b0] w (GivesBool w true) := by
  have m_b0 := rd_max h_b0
  unfold maxLen at m_b0
  by_cases big_b : 1048576 < n_b0
  · go_enter Try.func4, Try.ntmps4
    go_wp2
    go_ret
    exact ⟨rfl, by first | exact Below.refl _ _ | exact below_alloc _ _ | exact (below_alloc _ _).trans ((below_alloc _ _).mono (by simp))⟩
  have i_b : n_b0 ≤ 1048576 := by omega
  have sz_b : b.length ≤ 1048576 := by rw [rd_len h_b0]; exact i_b
  have CS := Lib.hid (fun A_b0' n_b0' c_b0' w h_b0' => bitsValue_spec b A_b0' n_b0' c_b0' w h_b0')
  have CI := Lib.hid (fun A_b0' n_b0' c_b0' w h_b0' => bitsValue_impl b A_b0' n_b0' c_b0' w h_b0')
  generalize bitsValB b = F0 at CS CI
  have nz0 : (F0 != F0) = false := by simp
  go_enter Try.func4, Try.ntmps4
  go_wp2_with fail
  refine (toIntS_M A_b0 n_b0 c_b0 b _ h_b0 i_b).mono ?_
  rintro e w1 ⟨pA_b0, pn_b0, pc_b0, pf_b0, rfl, po_b0, pnd_b, plo_b, b1⟩
  have k := b1
  have B := k
  have plo_b_hi := Mem.own_lt po_b0
  go_wp2_with fail
  refine (CS.out pA_b0 pn_b0 pc_b0  _ (Mem.own_rd po_b0)).mono ?_
  rintro e w2 ⟨rfl, b2⟩
  have sb2 := b2.size
  have k := k.trans (b2.mono k.size)
  have po_b0 := Mem.own_below po_b0 b2
  have B := k
  have xlo_b_k := k.size
  go_wp2_with fail
  refine (toIntS_M A_b0 n_b0 c_b0 b _ (Mem.rd_on h_b0 B) i_b).mono ?_
  rintro e w3 ⟨xA_b0, xn_b0, xc_b0, xf_b0, rfl, xo_b0, xnd_b, xlo_b, b3⟩
  have sb3 := b3.size
  have k := k.trans (b3.mono k.size)
  have B := k
  have xlo_b_hi := Mem.own_lt xo_b0
  go_wp2_with fail
  refine (CI.out xA_b0 xn_b0 xc_b0  _ (Mem.own_rd xo_b0)).mono ?_
  rintro e w4 ⟨rfl, b4⟩
  have sb4 := b4.size
  have k := k.trans (b4.mono k.size)
  have xo_b0 := Mem.own_below xo_b0 b4
  have B := k
  have elo_b_k := k.size
  go_wp2_with fail
  refine (toIntS_M A_b0 n_b0 c_b0 b _ (Mem.rd_on h_b0 B) i_b).mono ?_
  rintro e w5 ⟨eA_b0, en_b0, ec_b0, ef_b0, rfl, eo_b0, end_b, elo_b, b5⟩
  have sb5 := b5.size
  have k := k.trans (b5.mono k.size)
  have xo_b0 := Mem.own_below xo_b0 b5
  have B := k
  have elo_b_hi := Mem.own_lt eo_b0
  go_wp2_with fail
  refine (eqIntS_M xA_b0 eA_b0 xn_b0 xc_b0 en_b0 ec_b0 b _ (Mem.own_rd xo_b0) (Mem.own_rd eo_b0)).mono ?_
  rintro e w6 ⟨rfl, b6⟩
  have sb6 := b6.size
  have k := k.trans (b6.mono k.size)
  have xo_b0 := Mem.own_below xo_b0 b6
  have eo_b0 := Mem.own_below eo_b0 b6
  have B := k
  go_wp2
  go_ret
  exact ⟨rfl, B⟩

set_option maxRecDepth 100000 in
theorem slBitsValue_lifted (os : Os) (started : os.Started) (H : Type) (enc : TypeId × Value → H) :
    ReturnsInHanded {} Try.checked os 4 .any (Rows.fnExactBitsValueSpec.pre6 enc Try.prog Try.f4 Rows.fnExactBitsValueRow.domain false) (Rows.fnExactBitsValueSpec.post enc Try.prog Try.f4 false true false false) := by
  refine returnsInHanded_of_change (C := Try.checked) Try.own started (by kernel_rfl) Try.func4
    (ChangeSpec.witness6 (enc := enc) (C := Try.checked) false ⟨#[], #[.slice none 0 0], []⟩ 8 (by kernel_rfl) (by kernel_rfl) (by kernel_rfl) (by kernel_rfl)) ?_
  intro W base args ds gs before hval0 hW hcnd _
  have hval : ∀ (j : Nat) t v, Try.f4.params[j]? = some t → args[j]? = some v → Value.okWide Try.prog W .any base t v := hval0
  have hW' := hW
  have hW2 := hW
  obtain ⟨p, q, hA0, hV, rfl, hfz, hnd⟩ := hW2
  have hA : DataW.TrodAll enc Try.prog W 0 (fun _ => true) true Try.f4.params.toList args.toList ds p := hA0
  rw [Try.params4] at hA hval
  obtain ⟨u0, d0, rfl, rfl, h0⟩ := trodAll_one hA
  obtain ⟨rfl, rfl⟩ := trodVars_none hV
  have k0 := h0
  obtain ⟨A_b0, n_b0, c_b0, b, rfl, mm0, rr0⟩ := open_intS (hval 0 26 u0 rfl rfl) h0
  clear hA0 hval0
  simp only [List.append_nil] at hW'
  have hlt : ∀ x ∈ p, x.block < W.heap.size := fun x hx => hW'.lt x (by simpa using hx)
  refine (slBitsValue_any b A_b0 n_b0 c_b0 W (rd_ints.2 ⟨mm0, rr0⟩)).mono fun e W' ⟨he, hb⟩ => ?_
  subst he
  exact ⟨_, rfl, post_below (pa := p) (pv := []) hW' (fun _ _ _ => trodAll_mk1 (shut_bool Try.underlying4 _))
    (fun sp hsp => trodAll_mk1 (WideElems.Trod_stays Try.laidOut (by kernel_rfl) (of_decide_eq_true (by kernel_rfl)) k0 (fun x hx => hb.same (hlt x (by simp [hx]))) (fun x hx => hsp x (by simp [hx])))) (fun _ _ => rfl) (by simp)
    hb (ok_one (by kernel_rfl) rfl (okWide_bool_mk Try.underlying4 _))⟩

theorem slBitsValue_holds : Rows.FnExactBitsValueSaid :=
  OpenClaim.holds_of_wide 4 Try.f4 rfl rfl rfl rfl rfl rfl rfl ⟨rfl, rfl, rfl, rfl, rfl⟩ rfl rfl rfl rfl rfl (by kernel_rfl) Try.func4 (by kernel_rfl)
    (of_decide_eq_true (by kernel_rfl)) (by unfold Func.isWrapper; first | (rw [if_pos (by decide +kernel)]; kernel_rfl) | (rw [if_neg (by decide +kernel)]; exact ⟨rfl, rfl⟩))
    (fun os started H enc _ => slBitsValue_lifted os started H enc)
end Go.Proofs.Ytopedgopbofhoaa
