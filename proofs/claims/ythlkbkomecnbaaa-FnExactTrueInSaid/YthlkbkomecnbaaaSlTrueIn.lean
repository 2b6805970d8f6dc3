/- For every input the law FnExactTrueIn returns true: the function answers as its model, and writes into no argument. -/
import Derived.Test.YthlkbkomecnbaaaKtI
import Derived.Test.YthlkbkomecnbaaaKtS
import Derived.Test.YthlkbkomecnbaaaIl
import Derived.Test.YthlkbkomecnbaaaEqSy
import Derived.Test.YthlkbkomecnbaaaOpenSy
import Derived.Test.YthlkbkomecnbaaaOpenSy
import Derived.Deep.RegionHeld3
namespace Go.Proofs.Ythlkbkomecnbaaa
open Go.ChangeShapes Go.WideShapes Go.ChangeAt Go.RowKit

theorem slTrueIn_box {w : World} {v1 v2 : Value} (t : TypeId) : ∀ W, Below (w.alloc (.cells #[v1, v2] t)).heap.size (w.alloc (.cells #[v1, v2] t)) W →
    Below w.heap.size w W ∧ W.cell? ⟨w.heap.size, 0, none⟩ = some v1 ∧ W.cell? ⟨w.heap.size, 1, none⟩ = some v2 ∧ w.heap.size < W.heap.size :=
  fun W hW => ⟨below_call hW, ((ci_blk w _ _).below hW (by simp)).cell 0, ((ci_blk w _ _).below hW (by simp)).cell 1, by have := hW.size; simp at this; omega⟩

set_option maxRecDepth 100000 in
set_option maxHeartbeats 8000000 in
theorem slTrueIn_any (cs : Cs) (bs : List Int) (A_cs0 : Option Addr) (n_cs0 c_cs0 : Nat) (A_bs0 : Option Addr) (n_bs0 c_bs0 : Nat) (w : World) (h_cs0 : Mem.rd w w.heap.size [.slice A_cs0 n_cs0 c_cs0] cs.list) (h_bs0 : Mem.rd w w.heap.size [.slice A_bs0 n_bs0 c_bs0] bs) :
    Calls Try.prog 6 #[.agg #[.int .i64 cs.atoms, .slice A_cs0 n_cs0 c_cs0], .slice A_bs0 n_bs0 c_bs0] w (GivesBool w true) := by
  have m_cs0 := rd_max h_cs0
  have m_bs0 := rd_max h_bs0
  unfold maxLen at m_cs0 m_bs0
  by_cases big_bs : 1048576 < n_bs0
  · go_enter Try.func6, Try.ntmps6
    go_wp2
    go_ret
    exact ⟨rfl, by first | exact Below.refl _ _ | exact below_alloc _ _ | exact (below_alloc _ _).trans ((below_alloc _ _).mono (by simp))⟩
  by_cases big_cs : 1048576 < (szCs cs : Int)
  · go_enter Try.func6, Try.ntmps6
    go_wp2_with fail
    refine (szClauses_any cs A_cs0 n_cs0 c_cs0 (1048576) _ (Mem.rd_on_alloc h_cs0 _) (by omega) (by omega)).mono ?_
    rintro e v0 ⟨rfl, bz0⟩
    have k := bz0
    rw [rest_no big_cs]
    go_wp2
    go_ret
    exact ⟨rfl, by first | exact Below.refl _ _ | exact below_alloc _ _ | exact below_call k | exact below_call (below_call k) | exact k⟩
  have sz_cs : szII cs.list ≤ 1048576 := by have : szCs cs = szII cs.list := rfl; omega
  have fits_cs := Lib.hid sz_cs
  have i_bs : n_bs0 ≤ 1048576 := by omega
  have sz_bs : bs.length ≤ 1048576 := by rw [rd_len h_bs0]; exact i_bs
  have CS := Lib.hid (fun A_cs0' n_cs0' c_cs0' A_bs0' n_bs0' c_bs0' w h_cs0' h_bs0' => trueIn_spec cs bs A_cs0' n_cs0' c_cs0' A_bs0' n_bs0' c_bs0' w h_cs0' h_bs0')
  have CI := Lib.hid (fun A_cs0' n_cs0' c_cs0' A_bs0' n_bs0' c_bs0' w h_cs0' h_bs0' => trueIn_impl cs bs A_cs0' n_cs0' c_cs0' A_bs0' n_bs0' c_bs0' w h_cs0' h_bs0')
  generalize trueInB cs bs = F0 at CS CI
  have nz0 : (F0 != F0) = false := by simp
  have BX := Lib.hid (slTrueIn_box (w := w) (v1 := .int .i64 cs.atoms) (v2 := .slice A_cs0 n_cs0 c_cs0) 28)
  go_enter Try.func6, Try.ntmps6
  go_wp2_with fail
  refine (szClauses_any cs A_cs0 n_cs0 c_cs0 (1048576) _ (Mem.rd_on_alloc h_cs0 _) (by omega) (by omega)).mono ?_
  rintro e v0 ⟨rfl, bz0⟩
  have k := bz0
  rw [rest_yes (by omega)]
  skip
  obtain ⟨B, x0, x1, lx⟩ := BX.out _ k
  have plo_cs_k := k.size
  go_wp2_with fail
  refine (toClauses_any cs A_cs0 n_cs0 c_cs0 _ (Mem.rd_on h_cs0 B) fits_cs.out).mono ?_
  rintro e w1 ⟨pA_cs0, pn_cs0, pc_cs0, pf_cs0, rfl, po_cs0, pnd_cs, plo_cs, b1⟩
  have sb1 := b1.size
  have k := k.trans (b1.mono k.size)
  obtain ⟨B, x0, x1, lx⟩ := BX.out _ k
  have plo_cs_hi := Mem.own_lt po_cs0
  have plo_bs_k := k.size
  go_wp2_with fail
  refine (toIntS_M A_bs0 n_bs0 c_bs0 bs _ (Mem.rd_on h_bs0 B) i_bs).mono ?_
  rintro e w2 ⟨pA_bs0, pn_bs0, pc_bs0, pf_bs0, rfl, po_bs0, pnd_bs, plo_bs, b2⟩
  have sb2 := b2.size
  have k := k.trans (b2.mono k.size)
  have po_cs0 := Mem.own_below po_cs0 b2
  obtain ⟨B, x0, x1, lx⟩ := BX.out _ k
  have plo_bs_hi := Mem.own_lt po_bs0
  go_wp2_with fail
  refine (CS.out pA_cs0 pn_cs0 pc_cs0 pA_bs0 pn_bs0 pc_bs0  _ (Mem.own_rd po_cs0) (Mem.own_rd po_bs0)).mono ?_
  rintro e w3 ⟨rfl, b3⟩
  have sb3 := b3.size
  have k := k.trans (b3.mono k.size)
  have po_cs0 := Mem.own_below po_cs0 b3
  have po_bs0 := Mem.own_below po_bs0 b3
  obtain ⟨B, x0, x1, lx⟩ := BX.out _ k
  have xlo_cs_k := k.size
  go_wp2_with fail
  refine (toClauses_any cs A_cs0 n_cs0 c_cs0 _ (Mem.rd_on h_cs0 B) fits_cs.out).mono ?_
  rintro e w4 ⟨xA_cs0, xn_cs0, xc_cs0, xf_cs0, rfl, xo_cs0, xnd_cs, xlo_cs, b4⟩
  have sb4 := b4.size
  have k := k.trans (b4.mono k.size)
  obtain ⟨B, x0, x1, lx⟩ := BX.out _ k
  have xlo_cs_hi := Mem.own_lt xo_cs0
  have xlo_bs_k := k.size
  go_wp2_with fail
  refine (toIntS_M A_bs0 n_bs0 c_bs0 bs _ (Mem.rd_on_alloc (Mem.rd_on h_bs0 B) _) i_bs).mono ?_
  rintro e w5 ⟨xA_bs0, xn_bs0, xc_bs0, xf_bs0, rfl, xo_bs0, xnd_bs, xlo_bs, b5⟩
  obtain ⟨_, xy_cs0, xy_cs1, xl_cs⟩ := slTrueIn_box 31 w5 b5
  have zb5 := b5.size; rw [World.size_alloc] at zb5
  have b5 := below_call b5
  have sb5 := b5.size
  have k := k.trans (b5.mono k.size)
  have xo_cs0 := Mem.own_below xo_cs0 b5
  obtain ⟨B, x0, x1, lx⟩ := BX.out _ k
  simp only [World.size_alloc] at xlo_bs
  have xlo_bs_hi := Mem.own_lt xo_bs0
  go_wp2_with fail
  refine (CI.out xA_cs0 xn_cs0 xc_cs0 xA_bs0 xn_bs0 xc_bs0  _ (Mem.own_rd xo_cs0) (Mem.own_rd xo_bs0)).mono ?_
  rintro e w6 ⟨rfl, b6⟩
  have sb6 := b6.size
  have k := k.trans (b6.mono k.size)
  have xy_cs0 := cell_below b6 (p := ⟨w4.heap.size, 0, none⟩) xl_cs xy_cs0
  have xy_cs1 := cell_below b6 (p := ⟨w4.heap.size, 1, none⟩) xl_cs xy_cs1
  have xl_cs := Nat.lt_of_lt_of_le xl_cs sb6
  have xo_cs0 := Mem.own_below xo_cs0 b6
  have xo_bs0 := Mem.own_below xo_bs0 b6
  obtain ⟨B, x0, x1, lx⟩ := BX.out _ k
  have r0_ := Mem.own_rd xo_cs0
  go_wp2
  go_region_held3 (fun w' => w'.cell? ⟨w.heap.size, 0, none⟩ = some (.int .i64 cs.atoms) ∧ w'.cell? ⟨w.heap.size, 1, none⟩ = some (.slice A_cs0 n_cs0 c_cs0) ∧ w'.cell? ⟨w4.heap.size, 0, none⟩ = some (.int .i64 cs.atoms) ∧ w'.cell? ⟨w4.heap.size, 1, none⟩ = some (.slice xA_cs0 xn_cs0 xc_cs0)) (go_keep)
    (first
      | (go_at_call 17; refine (toClauses_any cs A_cs0 n_cs0 c_cs0 w6.drew (Mem.rd_drew (Mem.rd_on h_cs0 B)) fits_cs.out).mono ?_; rintro e w7 ⟨R1, g1, j1, q5, rfl, u5, _, _, b7⟩
         have z0 := cell_below b7 (p := ⟨w.heap.size, 0, none⟩) lx x0
         have z1 := cell_below b7 (p := ⟨w.heap.size, 1, none⟩) lx x1
         have z2 := cell_below b7 (p := ⟨w4.heap.size, 0, none⟩) xl_cs xy_cs0
         have z3 := cell_below b7 (p := ⟨w4.heap.size, 1, none⟩) xl_cs xy_cs1
         have l7 := Nat.lt_of_lt_of_le lx b7.size
         have m7 := Nat.lt_of_lt_of_le xl_cs b7.size)
      | (go_at_call 19; refine (eqClauses_same cs xA_cs0 xn_cs0 xc_cs0 R1 g1 j1 _ (Mem.rd_on (Mem.rd_drew r0_) b7) (Mem.own_rd u5) fits_cs.out).mono ?_; rintro e w8 ⟨rfl, b8⟩
         have z0 := cell_below b8 (p := ⟨w.heap.size, 0, none⟩) l7 z0
         have z1 := cell_below b8 (p := ⟨w.heap.size, 1, none⟩) l7 z1
         have z2 := cell_below b8 (p := ⟨w4.heap.size, 0, none⟩) m7 z2
         have z3 := cell_below b8 (p := ⟨w4.heap.size, 1, none⟩) m7 z3))
  have b8 := (show Below w6.heap.size w6 w7 from ⟨b7.os, b7.tape, b7.output, b7.size, b7.block⟩).trans (b8.mono b7.size)
  clear r0_
  have sb8 := b8.size
  have k := k.trans (b8.mono k.size)
  have xy_cs0 := cell_below b8 (p := ⟨w4.heap.size, 0, none⟩) xl_cs xy_cs0
  have xy_cs1 := cell_below b8 (p := ⟨w4.heap.size, 1, none⟩) xl_cs xy_cs1
  have xl_cs := Nat.lt_of_lt_of_le xl_cs sb8
  have xo_cs0 := Mem.own_below xo_cs0 b8
  have xo_bs0 := Mem.own_below xo_bs0 b8
  obtain ⟨B, x0, x1, lx⟩ := BX.out _ k
  have elo_bs_k := k.size
  go_wp2_with fail
  refine (toIntS_M A_bs0 n_bs0 c_bs0 bs _ (Mem.rd_on h_bs0 B) i_bs).mono ?_
  rintro e w9 ⟨eA_bs0, en_bs0, ec_bs0, ef_bs0, rfl, eo_bs0, end_bs, elo_bs, b9⟩
  have sb9 := b9.size
  have k := k.trans (b9.mono k.size)
  have xy_cs0 := cell_below b9 (p := ⟨w4.heap.size, 0, none⟩) xl_cs xy_cs0
  have xy_cs1 := cell_below b9 (p := ⟨w4.heap.size, 1, none⟩) xl_cs xy_cs1
  have xl_cs := Nat.lt_of_lt_of_le xl_cs sb9
  have xo_cs0 := Mem.own_below xo_cs0 b9
  have xo_bs0 := Mem.own_below xo_bs0 b9
  obtain ⟨B, x0, x1, lx⟩ := BX.out _ k
  have elo_bs_hi := Mem.own_lt eo_bs0
  go_wp2_with fail
  refine (eqIntS_M xA_bs0 eA_bs0 xn_bs0 xc_bs0 en_bs0 ec_bs0 bs _ (Mem.own_rd xo_bs0) (Mem.own_rd eo_bs0)).mono ?_
  rintro e w10 ⟨rfl, b10⟩
  have sb10 := b10.size
  have k := k.trans (b10.mono k.size)
  have xy_cs0 := cell_below b10 (p := ⟨w4.heap.size, 0, none⟩) xl_cs xy_cs0
  have xy_cs1 := cell_below b10 (p := ⟨w4.heap.size, 1, none⟩) xl_cs xy_cs1
  have xl_cs := Nat.lt_of_lt_of_le xl_cs sb10
  have xo_cs0 := Mem.own_below xo_cs0 b10
  have xo_bs0 := Mem.own_below xo_bs0 b10
  have eo_bs0 := Mem.own_below eo_bs0 b10
  obtain ⟨B, x0, x1, lx⟩ := BX.out _ k
  go_wp2
  go_ret
  exact ⟨rfl, B⟩

set_option maxRecDepth 100000 in
theorem slTrueIn_lifted (os : Os) (started : os.Started) (H : Type) (enc : TypeId × Value → H) :
    ReturnsInHanded {} Try.checked os 6 .any (Rows.fnExactTrueInSpec.pre6 enc Try.prog Try.f6 Rows.fnExactTrueInRow.domain false) (Rows.fnExactTrueInSpec.post enc Try.prog Try.f6 false true false false) := by
  refine returnsInHanded_of_change (C := Try.checked) Try.own started (by kernel_rfl) Try.func6
    (ChangeSpec.witness6 (enc := enc) (C := Try.checked) false ⟨#[], #[.agg #[.int .i64 0, .slice none 0 0], .slice none 0 0], []⟩ 8 (by kernel_rfl) (by kernel_rfl) (by kernel_rfl) (by kernel_rfl)) ?_
  intro W base args ds gs before hval0 hW hcnd _
  have hval : ∀ (j : Nat) t v, Try.f6.params[j]? = some t → args[j]? = some v → Value.okWide Try.prog W .any base t v := hval0
  have hW' := hW
  have hW2 := hW
  obtain ⟨p, q, hA0, hV, rfl, hfz, hnd⟩ := hW2
  have hA : DataW.TrodAll enc Try.prog W 0 (fun _ => true) true Try.f6.params.toList args.toList ds p := hA0
  rw [Try.params6] at hA hval
  obtain ⟨u0, u1, d0, d1, p0, p1, rfl, rfl, rfl, h0, h1⟩ := trodAll_two hA
  obtain ⟨rfl, rfl⟩ := trodVars_none hV
  have k0 := h0
  obtain ⟨A_cs0, n_cs0, c_cs0, cs, rfl, ra0, wf0⟩ := open_clauses (hval 0 28 u0 rfl rfl) h0
  have k1 := h1
  obtain ⟨A_bs0, n_bs0, c_bs0, bs, rfl, mm1, rr1⟩ := open_intS (hval 1 22 u1 rfl rfl) h1
  clear hA0 hval0
  simp only [List.append_nil] at hW'
  have hlt : ∀ x ∈ p0 ++ p1, x.block < W.heap.size := fun x hx => hW'.lt x (by simpa using hx)
  refine (slTrueIn_any cs bs A_cs0 n_cs0 c_cs0 A_bs0 n_bs0 c_bs0 W ra0 (rd_ints.2 ⟨mm1, rr1⟩)).mono fun e W' ⟨he, hb⟩ => ?_
  subst he
  exact ⟨_, rfl, post_below (pa := p0 ++ p1) (pv := []) hW' (fun _ _ _ => trodAll_mk1 (shut_bool Try.underlying4 _))
    (fun sp hsp => trodAll_mk2 (WideElems.Trod_stays Try.laidOut (by kernel_rfl) (of_decide_eq_true (by kernel_rfl)) k0 (fun x hx => hb.same (hlt x (by simp [hx]))) (fun x hx => hsp x (by simp [hx]))) (WideElems.Trod_stays Try.laidOut (by kernel_rfl) (of_decide_eq_true (by kernel_rfl)) k1 (fun x hx => hb.same (hlt x (by simp [hx]))) (fun x hx => hsp x (by simp [hx])))) (fun _ _ => rfl) (by simp)
    hb (ok_one (by kernel_rfl) rfl (okWide_bool_mk Try.underlying4 _))⟩

theorem slTrueIn_holds : Rows.FnExactTrueInSaid :=
  OpenClaim.holds_of_wide 6 Try.f6 rfl rfl rfl rfl rfl rfl rfl ⟨rfl, rfl, rfl, rfl, rfl⟩ rfl rfl rfl rfl rfl (by kernel_rfl) Try.func6 (by kernel_rfl)
    (of_decide_eq_true (by kernel_rfl)) (by unfold Func.isWrapper; first | (rw [if_pos (by decide +kernel)]; kernel_rfl) | (rw [if_neg (by decide +kernel)]; exact ⟨rfl, rfl⟩))
    (fun os started H enc _ => slTrueIn_lifted os started H enc)
end Go.Proofs.Ythlkbkomecnbaaa
