/- For every input the law FnExactValueBits returns true: the function answers as its model, and writes into no argument. -/
import Derived.Test.YtdecjkfokilgoaaBitI
import Derived.Test.YtdecjkfokilgoaaBitS
import Derived.Test.YtdecjkfokilgoaaIl
import Derived.Test.YtdecjkfokilgoaaEqSy
import Derived.Test.YtdecjkfokilgoaaOpenSy
import Derived.Test.YtdecjkfokilgoaaOpenSy
import Derived.Deep.RegionHeld3
namespace Go.Proofs.Ytdecjkfokilgoaa
open Go.ChangeShapes Go.WideShapes Go.ChangeAt Go.RowKit

theorem slValueBits_box {w : World} {v1 v2 : Value} (t : TypeId) : ∀ W, Below (w.alloc (.cells #[v1, v2] t)).heap.size (w.alloc (.cells #[v1, v2] t)) W →
    Below w.heap.size w W ∧ W.cell? ⟨w.heap.size, 0, none⟩ = some v1 ∧ W.cell? ⟨w.heap.size, 1, none⟩ = some v2 ∧ w.heap.size < W.heap.size :=
  fun W hW => ⟨below_call hW, ((Blk.new w _ _).below hW (by simp)).cell 0, ((Blk.new w _ _).below hW (by simp)).cell 1, by have := hW.size; simp at this; omega⟩

set_option maxRecDepth 100000 in
set_option maxHeartbeats 8000000 in
theorem slValueBits_any (n : Int) (many : Int)  (w : World)  :
    Calls Try.prog 8 #[.int .i64 n, .int .i64 many] w (GivesBool w true) := by
  have CS := Lib.hid (fun  w  => valueBits_spec n many  w )
  have CI := Lib.hid (fun  w  => valueBits_impl n many  w )
  have bF0 := valueBitsB_len n many
  generalize valueBitsB n many = F0 at CS CI bF0
  obtain ⟨m0, hm0⟩ : ∃ m, m = F0.length := ⟨_, rfl⟩
  rw [← hm0] at bF0
  have HM0 := Lib.hid hm0
  clear hm0
  go_enter Try.func8, Try.ntmps8
  have slo_k : w.heap.size ≤ w.heap.size := Nat.le_refl _
  go_wp2_with fail
  refine (CS.out   _ ).mono ?_
  rintro e w1 ⟨sA0, sn0, sc0, sf0, rfl, so0, snd, slo, b1⟩
  have k := b1
  have B := k
  have slo_hi := Mem.own_lt so0
  have glo_k := k.size
  go_wp2_with fail
  refine (CI.out   _ ).mono ?_
  rintro e w2 ⟨gA0, gn0, gc0, gf0, rfl, go0, gnd, glo, b2⟩
  have sb2 := b2.size
  have k := k.trans (b2.mono k.size)
  have so0 := Mem.own_below so0 b2
  have B := k
  have glo_hi := Mem.own_lt go0
  go_wp2_with fail
  refine (eqIntS_M gA0 sA0 gn0 gc0 sn0 sc0 F0 _ (Mem.own_rd go0) (Mem.own_rd so0)).mono ?_
  rintro e w3 ⟨rfl, b3⟩
  have sb3 := b3.size
  have k := k.trans (b3.mono k.size)
  have so0 := Mem.own_below so0 b3
  have go0 := Mem.own_below go0 b3
  have B := k
  go_wp2_with fail
  refine (markIntS_W gA0 gn0 gc0 F0 gf0 (1) _ go0 (by omega) (by omega) (by rw [← HM0.out]; omega)).mono ?_
  rintro e w4 ⟨rfl, go0, b4⟩
  have sb4 := b4.size
  have k := k.trans (b4.below (by have := k.size; omega) fun b hb => by have := glo b hb; have := glo_k; omega)
  have so0 := Mem.own_only so0 b4 fun b hb hc => by have := slo b hb; have := slo_hi b hb; have := glo b hc; have := glo_hi b hc; omega
  have B := k
  rw [← HM0.out] at go0 ⊢
  have nq : (1 + (m0 : Int) != 1 + (m0 : Int)) = false := by simp
  go_wp2_with fail
  refine (heldIntS_W gA0 gn0 gc0 (1) m0 _ (Mem.own_rd go0) (by omega) (by omega) (by omega)).mono ?_
  rintro e w5 ⟨rfl, b5⟩
  have sb5 := b5.size
  have k := k.trans (b5.mono k.size)
  have so0 := Mem.own_below so0 b5
  have go0 := Mem.own_below go0 b5
  have B := k
  have hlo_k := k.size
  go_wp2_with fail
  refine (CI.out   _ ).mono ?_
  rintro e w6 ⟨hA0, hn0, hc0, hf0, rfl, ho0, hnd, hlo, b6⟩
  have sb6 := b6.size
  have k := k.trans (b6.mono k.size)
  have so0 := Mem.own_below so0 b6
  have go0 := Mem.own_below go0 b6
  have B := k
  have hlo_hi := Mem.own_lt ho0
  go_wp2_with fail
  refine (eqIntS_M hA0 sA0 hn0 hc0 sn0 sc0 F0 _ (Mem.own_rd ho0) (Mem.own_rd so0)).mono ?_
  rintro e w7 ⟨rfl, b7⟩
  have sb7 := b7.size
  have k := k.trans (b7.mono k.size)
  have so0 := Mem.own_below so0 b7
  have go0 := Mem.own_below go0 b7
  have ho0 := Mem.own_below ho0 b7
  have B := k
  go_wp2_with fail
  refine (heldIntS_W gA0 gn0 gc0 (1) m0 _ (Mem.own_rd go0) (by omega) (by omega) (by omega)).mono ?_
  rintro e w8 ⟨rfl, b8⟩
  have sb8 := b8.size
  have k := k.trans (b8.mono k.size)
  have so0 := Mem.own_below so0 b8
  have go0 := Mem.own_below go0 b8
  have ho0 := Mem.own_below ho0 b8
  have B := k
  go_wp2
  go_ret
  exact ⟨rfl, B⟩

set_option maxRecDepth 100000 in
theorem slValueBits_lifted (os : Os) (started : os.Started) (H : Type) (enc : TypeId × Value → H) :
    ReturnsInHanded {} Try.checked os 8 .any (Rows.fnExactValueBitsSpec.pre6 enc Try.prog Try.f8 Rows.fnExactValueBitsRow.domain false) (Rows.fnExactValueBitsSpec.post enc Try.prog Try.f8 false true false false) := by
  refine returnsInHanded_of_change (C := Try.checked) Try.own started (by kernel_rfl) Try.func8
    (ChangeSpec.witness6 (enc := enc) (C := Try.checked) false ⟨#[], #[.int .i64 0, .int .i64 0], []⟩ 8 (by kernel_rfl) (by kernel_rfl) (by kernel_rfl) (by kernel_rfl)) ?_
  intro W base args ds gs before hval0 hW hcnd _
  have hval : ∀ (j : Nat) t v, Try.f8.params[j]? = some t → args[j]? = some v → Value.okWide Try.prog W .any base t v := hval0
  have hW' := hW
  have hW2 := hW
  obtain ⟨p, q, hA0, hV, rfl, hfz, hnd⟩ := hW2
  have hA : DataW.TrodAll enc Try.prog W 0 (fun _ => true) true Try.f8.params.toList args.toList ds p := hA0
  rw [Try.params8] at hA hval
  obtain ⟨u0, u1, d0, d1, p0, p1, rfl, rfl, rfl, h0, h1⟩ := trodAll_two hA
  obtain ⟨rfl, rfl⟩ := trodVars_none hV
  obtain ⟨n, rfl, rfl, rfl, wf0⟩ := open_int Try.underlying3 (hval 0 3 u0 rfl rfl) h0
  obtain ⟨many, rfl, rfl, rfl, wf1⟩ := open_int Try.underlying3 (hval 1 3 u1 rfl rfl) h1
  clear hA0 hval0
  simp only [List.append_nil] at hW'
  refine (slValueBits_any n many  W ).mono fun e W' ⟨he, hb⟩ => ?_
  subst he
  exact ⟨_, rfl, post_below (pa := [] ++ ([])) (pv := []) hW' (fun _ _ _ => trodAll_mk1 (shut_bool Try.underlying4 _))
    (fun sp hsp => trodAll_mk2 (shut_int Try.underlying3 wf0) (shut_int Try.underlying3 wf1)) (fun _ _ => rfl) (by simp)
    hb (ok_one (by kernel_rfl) rfl (okWide_bool_mk Try.underlying4 _))⟩

theorem slValueBits_holds : Rows.FnExactValueBitsSaid :=
  OpenClaim.holds_of_wide 8 Try.f8 rfl rfl rfl rfl rfl rfl rfl ⟨rfl, rfl, rfl, rfl, rfl⟩ rfl rfl rfl rfl rfl (by kernel_rfl) Try.func8 (by kernel_rfl)
    (of_decide_eq_true (by kernel_rfl)) (by unfold Func.isWrapper; first | (rw [if_pos (by decide +kernel)]; kernel_rfl) | (rw [if_neg (by decide +kernel)]; exact ⟨rfl, rfl⟩))
    (fun os started H enc _ => slValueBits_lifted os started H enc)
end Go.Proofs.Ytdecjkfokilgoaa
