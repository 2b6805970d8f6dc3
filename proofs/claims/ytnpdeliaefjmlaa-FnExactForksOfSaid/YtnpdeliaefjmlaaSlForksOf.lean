/- For every input the law FnExactForksOf returns true: the function answers as its model, and writes into no argument. -/
import Derived.Test.YtnpdeliaefjmlaaFo
import Derived.Test.YtnpdeliaefjmlaaIl
import Derived.Test.YtnpdeliaefjmlaaEqSy
import Derived.Test.YtnpdeliaefjmlaaOpenSy
import Derived.Test.YtnpdeliaefjmlaaOpenSy
import Derived.Deep.RegionHeld3
namespace Go.Proofs.Ytnpdeliaefjmlaa
open Go.ChangeShapes Go.WideShapes Go.ChangeAt Go.RowKit

theorem slForksOf_box {w : World} {v1 v2 : Value} (t : TypeId) : ∀ W, Below (w.alloc (.cells #[v1, v2] t)).heap.size (w.alloc (.cells #[v1, v2] t)) W →
    Below w.heap.size w W ∧ W.cell? ⟨w.heap.size, 0, none⟩ = some v1 ∧ W.cell? ⟨w.heap.size, 1, none⟩ = some v2 ∧ w.heap.size < W.heap.size :=
  fun W hW => ⟨below_call hW, ((ci_blk w _ _).below hW (by simp)).cell 0, ((ci_blk w _ _).below hW (by simp)).cell 1, by have := hW.size; simp at this; omega⟩

set_option maxRecDepth 100000 in
set_option maxHeartbeats 8000000 in
theorem slForksOf_any (dg : Dg) (nn : Int) (A_dg0 : Option Addr) (n_dg0 c_dg0 : Nat) (w : World) (h_dg0 : Mem.rd w w.heap.size [.slice A_dg0 n_dg0 c_dg0] dg.forks) :
    Calls Try.prog 10 #[.agg #[.int .i64 dg.vars, .slice A_dg0 n_dg0 c_dg0], .int .i64 nn] w (GivesBool w true) := by
  have m_dg0 := rd_max h_dg0
  unfold maxLen at m_dg0
  by_cases big_dg : 1048576 < (szDg dg : Int)
  · go_enter Try.func10, Try.ntmps10
    go_wp2_with fail
    refine (szDiagram_any dg A_dg0 n_dg0 c_dg0 (1048576) _ (Mem.rd_on_alloc h_dg0 _) (by omega) (by omega)).mono ?_
    rintro e v0 ⟨rfl, bz0⟩
    have k := bz0
    rw [rest_no big_dg]
    go_wp2
    go_ret
    exact ⟨rfl, by first | exact Below.refl _ _ | exact below_alloc _ _ | exact below_call k | exact below_call (below_call k) | exact k⟩
  have sz_dg : dg.forks.length ≤ 1048576 := by have : szDg dg = dg.forks.length := rfl; omega
  have fits_dg := Lib.hid sz_dg
  have CS := Lib.hid (fun A_dg0' n_dg0' c_dg0' w h_dg0' => forks_spec dg nn A_dg0' n_dg0' c_dg0' w h_dg0')
  have CI := Lib.hid (fun A_dg0' n_dg0' c_dg0' w h_dg0' => forks_impl dg nn A_dg0' n_dg0' c_dg0' w h_dg0')
  generalize forksB dg nn = F0 at CS CI
  have nz0 : (F0 != F0) = false := by simp
  have BX := Lib.hid (slForksOf_box (w := w) (v1 := .int .i64 dg.vars) (v2 := .slice A_dg0 n_dg0 c_dg0) 42)
  go_enter Try.func10, Try.ntmps10
  go_wp2_with fail
  refine (szDiagram_any dg A_dg0 n_dg0 c_dg0 (1048576) _ (Mem.rd_on_alloc h_dg0 _) (by omega) (by omega)).mono ?_
  rintro e v0 ⟨rfl, bz0⟩
  have k := bz0
  rw [rest_yes (by omega)]
  skip
  obtain ⟨B, x0, x1, lx⟩ := BX.out _ k
  have plo_dg_k := k.size
  go_wp2_with fail
  refine (toDiagram_any dg A_dg0 n_dg0 c_dg0 _ (Mem.rd_on h_dg0 B) fits_dg.out).mono ?_
  rintro e w1 ⟨pA_dg0, pn_dg0, pc_dg0, pf_dg0, rfl, po_dg0, pnd_dg, plo_dg, b1⟩
  have sb1 := b1.size
  have k := k.trans (b1.mono k.size)
  obtain ⟨B, x0, x1, lx⟩ := BX.out _ k
  have plo_dg_hi := Mem.own_lt po_dg0
  go_wp2_with fail
  refine (CS.out pA_dg0 pn_dg0 pc_dg0  _ (Mem.own_rd po_dg0)).mono ?_
  rintro e w2 ⟨rfl, b2⟩
  have sb2 := b2.size
  have k := k.trans (b2.mono k.size)
  have po_dg0 := Mem.own_below po_dg0 b2
  obtain ⟨B, x0, x1, lx⟩ := BX.out _ k
  have xlo_dg_k := k.size
  go_wp2_with fail
  refine (toDiagram_any dg A_dg0 n_dg0 c_dg0 _ (Mem.rd_on h_dg0 B) fits_dg.out).mono ?_
  rintro e w3 ⟨xA_dg0, xn_dg0, xc_dg0, xf_dg0, rfl, xo_dg0, xnd_dg, xlo_dg, b3⟩
  have sb3 := b3.size
  have k := k.trans (b3.mono k.size)
  obtain ⟨B, x0, x1, lx⟩ := BX.out _ k
  have xlo_dg_hi := Mem.own_lt xo_dg0
  go_wp2_with fail
  refine (CI.out xA_dg0 xn_dg0 xc_dg0  _ (Mem.rd_on_alloc (Mem.own_rd xo_dg0) _)).mono ?_
  rintro e w4 ⟨rfl, b4⟩
  obtain ⟨_, xy_dg0, xy_dg1, xl_dg⟩ := slForksOf_box 46 w4 b4
  have zb4 := b4.size; rw [World.size_alloc] at zb4
  have b4 := below_call b4
  have sb4 := b4.size
  have k := k.trans (b4.mono k.size)
  have xo_dg0 := Mem.own_below xo_dg0 b4
  obtain ⟨B, x0, x1, lx⟩ := BX.out _ k
  have r0_ := Mem.own_rd xo_dg0
  go_wp2
  go_region_held3 (fun w' => w'.cell? ⟨w.heap.size, 0, none⟩ = some (.int .i64 dg.vars) ∧ w'.cell? ⟨w.heap.size, 1, none⟩ = some (.slice A_dg0 n_dg0 c_dg0) ∧ w'.cell? ⟨w3.heap.size, 0, none⟩ = some (.int .i64 dg.vars) ∧ w'.cell? ⟨w3.heap.size, 1, none⟩ = some (.slice xA_dg0 xn_dg0 xc_dg0)) (go_keep)
    (first
      | (go_at_call 26; refine (toDiagram_any dg A_dg0 n_dg0 c_dg0 w4.drew (Mem.rd_drew (Mem.rd_on h_dg0 B)) fits_dg.out).mono ?_; rintro e w5 ⟨R1, g1, j1, q5, rfl, u5, _, _, b5⟩
         have z0 := cell_below b5 (p := ⟨w.heap.size, 0, none⟩) lx x0
         have z1 := cell_below b5 (p := ⟨w.heap.size, 1, none⟩) lx x1
         have z2 := cell_below b5 (p := ⟨w3.heap.size, 0, none⟩) xl_dg xy_dg0
         have z3 := cell_below b5 (p := ⟨w3.heap.size, 1, none⟩) xl_dg xy_dg1
         have l7 := Nat.lt_of_lt_of_le lx b5.size
         have m7 := Nat.lt_of_lt_of_le xl_dg b5.size)
      | (go_at_call 28; refine (eqDiagram_same dg xA_dg0 xn_dg0 xc_dg0 R1 g1 j1 _ (Mem.rd_on (Mem.rd_drew r0_) b5) (Mem.own_rd u5) fits_dg.out).mono ?_; rintro e w6 ⟨rfl, b6⟩
         have z0 := cell_below b6 (p := ⟨w.heap.size, 0, none⟩) l7 z0
         have z1 := cell_below b6 (p := ⟨w.heap.size, 1, none⟩) l7 z1
         have z2 := cell_below b6 (p := ⟨w3.heap.size, 0, none⟩) m7 z2
         have z3 := cell_below b6 (p := ⟨w3.heap.size, 1, none⟩) m7 z3))
  have b6 := (show Below w4.heap.size w4 w5 from ⟨b5.os, b5.tape, b5.output, b5.size, b5.block⟩).trans (b6.mono b5.size)
  clear r0_
  have sb6 := b6.size
  have k := k.trans (b6.mono k.size)
  have xy_dg0 := cell_below b6 (p := ⟨w3.heap.size, 0, none⟩) xl_dg xy_dg0
  have xy_dg1 := cell_below b6 (p := ⟨w3.heap.size, 1, none⟩) xl_dg xy_dg1
  have xl_dg := Nat.lt_of_lt_of_le xl_dg sb6
  have xo_dg0 := Mem.own_below xo_dg0 b6
  obtain ⟨B, x0, x1, lx⟩ := BX.out _ k
  go_wp2
  go_ret
  exact ⟨rfl, B⟩

set_option maxRecDepth 100000 in
theorem slForksOf_lifted (os : Os) (started : os.Started) (H : Type) (enc : TypeId × Value → H) :
    ReturnsInHanded {} Try.checked os 10 .any (Rows.fnExactForksOfSpec.pre6 enc Try.prog Try.f10 Rows.fnExactForksOfRow.domain false) (Rows.fnExactForksOfSpec.post enc Try.prog Try.f10 false true false false) := by
  refine returnsInHanded_of_change (C := Try.checked) Try.own started (by kernel_rfl) Try.func10
    (ChangeSpec.witness6 (enc := enc) (C := Try.checked) false ⟨#[], #[.agg #[.int .i64 0, .slice none 0 0], .int .i64 0], []⟩ 8 (by kernel_rfl) (by kernel_rfl) (by kernel_rfl) (by kernel_rfl)) ?_
  intro W base args ds gs before hval0 hW hcnd _
  have hval : ∀ (j : Nat) t v, Try.f10.params[j]? = some t → args[j]? = some v → Value.okWide Try.prog W .any base t v := hval0
  have hW' := hW
  have hW2 := hW
  obtain ⟨p, q, hA0, hV, rfl, hfz, hnd⟩ := hW2
  have hA : DataW.TrodAll enc Try.prog W 0 (fun _ => true) true Try.f10.params.toList args.toList ds p := hA0
  rw [Try.params10] at hA hval
  obtain ⟨u0, u1, d0, d1, p0, p1, rfl, rfl, rfl, h0, h1⟩ := trodAll_two hA
  obtain ⟨rfl, rfl⟩ := trodVars_none hV
  have k0 := h0
  obtain ⟨A_dg0, n_dg0, c_dg0, dg, rfl, ra0, wf0⟩ := open_diagram (hval 0 42 u0 rfl rfl) h0
  obtain ⟨nn, rfl, rfl, rfl, wf1⟩ := open_int Try.underlying3 (hval 1 3 u1 rfl rfl) h1
  clear hA0 hval0
  simp only [List.append_nil] at hW'
  have hlt : ∀ x ∈ p0, x.block < W.heap.size := fun x hx => hW'.lt x (by simpa using hx)
  refine (slForksOf_any dg nn A_dg0 n_dg0 c_dg0 W ra0).mono fun e W' ⟨he, hb⟩ => ?_
  subst he
  exact ⟨_, rfl, post_below (pa := p0 ++ ([])) (pv := []) hW' (fun _ _ _ => trodAll_mk1 (shut_bool Try.underlying4 _))
    (fun sp hsp => trodAll_mk2 (WideElems.Trod_stays Try.laidOut (by kernel_rfl) (of_decide_eq_true (by kernel_rfl)) k0 (fun x hx => hb.same (hlt x (by simp [hx]))) (fun x hx => hsp x (by simp [hx]))) (shut_int Try.underlying3 wf1)) (fun _ _ => rfl) (by simp)
    hb (ok_one (by kernel_rfl) rfl (okWide_bool_mk Try.underlying4 _))⟩

theorem slForksOf_holds : Rows.FnExactForksOfSaid :=
  OpenClaim.holds_of_wide 10 Try.f10 rfl rfl rfl rfl rfl rfl rfl ⟨rfl, rfl, rfl, rfl, rfl⟩ rfl rfl rfl rfl rfl (by kernel_rfl) Try.func10 (by kernel_rfl)
    (of_decide_eq_true (by kernel_rfl)) (by unfold Func.isWrapper; first | (rw [if_pos (by decide +kernel)]; kernel_rfl) | (rw [if_neg (by decide +kernel)]; exact ⟨rfl, rfl⟩))
    (fun os started H enc _ => slForksOf_lifted os started H enc)
end Go.Proofs.Ytnpdeliaefjmlaa
