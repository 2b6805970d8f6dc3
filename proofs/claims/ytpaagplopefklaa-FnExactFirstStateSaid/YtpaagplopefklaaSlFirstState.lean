/- For every input the law FnExactFirstState returns true: the function answers as its model, and writes into no argument. -/
import Derived.Test.YtpaagplopefklaaSysH
import Derived.Test.YtpaagplopefklaaMarkSy
import Derived.Test.YtpaagplopefklaaEqSy
import Derived.Test.YtpaagplopefklaaOpenSy
import Derived.Deep.RegionHeld3
namespace Go.Proofs.Ytpaagplopefklaa
open Go.ChangeShapes Go.WideShapes Go.ChangeAt Go.RowKit

theorem slFirstState_box {w : World} {v1 v2 : Value} (t : TypeId) : ∀ W, Below (w.alloc (.cells #[v1, v2] t)).heap.size (w.alloc (.cells #[v1, v2] t)) W →
    Below w.heap.size w W ∧ W.cell? ⟨w.heap.size, 0, none⟩ = some v1 ∧ W.cell? ⟨w.heap.size, 1, none⟩ = some v2 ∧ w.heap.size < W.heap.size :=
  fun W hW => ⟨below_call hW, ((Blk.new w _ _).below hW (by simp)).cell 0, ((Blk.new w _ _).below hW (by simp)).cell 1, by have := hW.size; simp at this; omega⟩

/-- A row that lies in none of the blocks that changed. -/
theorem slFirstState_row {w w' : World} {base size n c : Nat} {A : Option Addr} {t : TypeId} {xs : List Value} {fp : List Nat} (h : w.ownsRow base t size (.slice A n c) n xs) (ho : Only fp w w') (hd : ∀ g, (Value.slice A n c).ownBlock = some g → g ∉ fp) : w'.ownsRow base t size (.slice A n c) n xs := by
  refine ⟨h.1, ?_⟩
  rcases h.2 with h0 | ⟨g, cap, cur, hv, hb, hg, r⟩
  · exact .inl h0
  · have hlt : g < w.heap.size := (Array.getElem?_eq_some_iff.1 hg).1
    exact .inr ⟨g, cap, cur, hv, hb, (ho.block g hlt (hd g (by rw [hv]; rfl))).trans hg, r⟩

set_option maxRecDepth 100000 in
set_option maxHeartbeats 4000000 in
theorem slFirstState_any (s : Sy) (A1 : Option Addr) (n1 c1 : Nat) (A2 : Option Addr) (n2 c2 : Nat) (w : World) (h1 : Mem.rd w w.heap.size [.slice A1 n1 c1] s.vars) (h2 : Mem.rd w w.heap.size [.slice A2 n2 c2] s.rules) :
    Calls Try.prog 4 #[.agg #[.slice A1 n1 c1, .slice A2 n2 c2]] w (GivesBool w true) := by
  by_cases big : 1048576 < (szSy s : Int)
  · go_enter Try.func4, Try.ntmps4
    go_wp2_with fail
    refine (szSystem_any s A1 n1 c1 A2 n2 c2 1048576 _ (Mem.rd_on_alloc h1 _) (Mem.rd_on_alloc h2 _) (by omega) (by omega)).mono ?_
    rintro e w2 ⟨rfl, b2⟩
    rw [rest_no big]
    go_wp2
    go_ret
    exact ⟨rfl, below_call b2⟩
  have fits := Lib.hid (Sy.fits_of (s := s) (by omega))
  have CS := Lib.hid (fun A n c A' n' c' w h h' => first_spec s A n c A' n' c' w h h')
  have CI := Lib.hid (fun A n c A' n' c' w h h' => first_impl s A n c A' n' c' w h h')
  have hF : (firstB s).length ≤ 1000000 := firstB_len s
  generalize firstB s = F at CS CI hF
  obtain ⟨m, hm⟩ : ∃ m, m = F.length := ⟨_, rfl⟩
  rw [← hm] at hF
  have HM := Lib.hid hm
  clear hm
  have hsz : szSy s ≤ 1048576 := by omega
  obtain ⟨mk, hmk, hmk'⟩ : ∃ mk : Nat, Hid (mk = mkSy s) ∧ mk ≤ 4 * 1048576 := ⟨_, Lib.hid rfl, by have := mkRls_le s.rules; unfold szSy at hsz; unfold mkSy; omega⟩
  have BX := Lib.hid (slFirstState_box (w := w) (v1 := .slice A1 n1 c1) (v2 := .slice A2 n2 c2) 25)
  go_enter Try.func4, Try.ntmps4
  go_wp2_with fail
  refine (szSystem_any s A1 n1 c1 A2 n2 c2 1048576 _ (Mem.rd_on_alloc h1 _) (Mem.rd_on_alloc h2 _) (by omega) (by omega)).mono ?_
  rintro e w2 ⟨rfl, b2⟩
  rw [rest_yes (by omega)]
  obtain ⟨B2, x0, x1, _⟩ := BX.out w2 b2
  go_wp2_with fail
  refine (toSystem_any s A1 n1 c1 A2 n2 c2 w2 (Mem.rd_on h1 B2) (Mem.rd_on h2 B2) fits.out).mono ?_
  rintro e w3 ⟨P1, p1, q1, P2, p2, q2, f1, f2, rfl, o1, o2, _, _, b3⟩
  have k3 := b2.trans (b3.mono b2.size)
  obtain ⟨B3, x0, x1, l3⟩ := BX.out w3 k3
  go_wp2_with fail
  refine (CS.out P1 p1 q1 P2 p2 q2 w3 (Mem.own_rd o1) (Mem.own_rd o2)).mono ?_
  rintro e w4 ⟨vs, rfl, os, b4⟩
  rw [← HM.out] at os
  obtain ⟨As, cs, rfl, _, _⟩ := own_form os
  have ls := os.lt
  have k4 := k3.trans (b4.mono k3.size)
  obtain ⟨B4, x0, x1, l4⟩ := BX.out w4 k4
  go_wp2_with fail
  refine (toSystem_any s A1 n1 c1 A2 n2 c2 w4 (Mem.rd_on h1 B4) (Mem.rd_on h2 B4) fits.out).mono ?_
  rintro e w5 ⟨Q1, r1, t1, Q2, r2, t2, f3, f4, rfl, o3, o4, nd, lo5, b5⟩
  have hi5 : ∀ b ∈ f3 ++ f4, b < w5.heap.size := fun b hb => by
    rcases List.mem_append.1 hb with hb | hb
    · exact Mem.own_lt o3 b hb
    · exact Mem.own_lt o4 b hb
  have k5 := k4.trans (b5.mono k4.size)
  have os := own_below os b5
  have s4 := b5.size
  go_wp2_with fail
  refine (CI.out Q1 r1 t1 Q2 r2 t2 _ (Mem.rd_on_alloc (Mem.own_rd o3) _) (Mem.rd_on_alloc (Mem.own_rd o4) _)).mono ?_
  rintro e w6 ⟨vg, rfl, og, b6⟩
  rw [← HM.out, World.size_alloc] at og
  obtain ⟨Ag, cg, rfl, _, _⟩ := own_form og
  have lg := og.lt
  have k6 := k5.trans ((below_call b6).mono k5.size)
  have os := own_below os (below_call b6)
  have o3 := Mem.own_below o3 (below_call b6)
  have o4 := Mem.own_below o4 (below_call b6)
  have s6 := b6.size
  rw [World.size_alloc] at s6
  obtain ⟨B6, x0, x1, l6⟩ := BX.out w6 k6
  obtain ⟨B6', y0, y1, m6⟩ := slFirstState_box 31 w6 b6
  go_wp2_with fail
  refine (eqIntS_same Ag As m cg cs F w6 (Rd.of_own og) (Rd.of_own os) (by unfold maxLen; omega)).mono ?_
  rintro e w6' ⟨rfl, b6'⟩
  have k6 := k6.trans (b6'.mono k6.size)
  have os := own_below os b6'
  have og := own_below og b6'
  have o3 := Mem.own_below o3 b6'
  have o4 := Mem.own_below o4 b6'
  obtain ⟨B6, x0, x1, l6⟩ := BX.out w6' k6
  have y0 := cell_below b6' (p := ⟨w5.heap.size, 0, none⟩) m6 y0
  have y1 := cell_below b6' (p := ⟨w5.heap.size, 1, none⟩) m6 y1
  have m6 := Nat.lt_of_lt_of_le m6 b6'.size
  have r3 := Mem.own_rd o3
  have r4 := Mem.own_rd o4
  go_wp2
  go_region_held3 (fun w' => w'.cell? ⟨w.heap.size, 0, none⟩ = some (.slice A1 n1 c1) ∧ w'.cell? ⟨w.heap.size, 1, none⟩ = some (.slice A2 n2 c2) ∧ w'.cell? ⟨w5.heap.size, 0, none⟩ = some (.slice Q1 r1 t1) ∧ w'.cell? ⟨w5.heap.size, 1, none⟩ = some (.slice Q2 r2 t2)) (go_keep)
    (first
      | (go_at_call 14; refine (toSystem_any s A1 n1 c1 A2 n2 c2 w6'.drew (Mem.rd_drew (Mem.rd_on h1 B6)) (Mem.rd_drew (Mem.rd_on h2 B6)) fits.out).mono ?_; rintro e w7 ⟨R1, g1, j1, R2, g2, j2, f5, f6, rfl, o5, o6, _, _, b7⟩
         have z0 := cell_below b7 (p := ⟨w.heap.size, 0, none⟩) l6 x0
         have z1 := cell_below b7 (p := ⟨w.heap.size, 1, none⟩) l6 x1
         have z2 := cell_below b7 (p := ⟨w5.heap.size, 0, none⟩) m6 y0
         have z3 := cell_below b7 (p := ⟨w5.heap.size, 1, none⟩) m6 y1
         have l7 := Nat.lt_of_lt_of_le l6 b7.size
         have m7 := Nat.lt_of_lt_of_le m6 b7.size)
      | (go_at_call 16; refine (eqSystem_same s Q1 r1 t1 Q2 r2 t2 R1 g1 j1 R2 g2 j2 _ (Mem.rd_on (Mem.rd_drew r3) b7) (Mem.rd_on (Mem.rd_drew r4) b7) (Mem.own_rd o5) (Mem.own_rd o6) fits.out).mono ?_; rintro e w8 ⟨rfl, b8⟩
         have z0 := cell_below b8 (p := ⟨w.heap.size, 0, none⟩) l7 z0
         have z1 := cell_below b8 (p := ⟨w.heap.size, 1, none⟩) l7 z1
         have z2 := cell_below b8 (p := ⟨w5.heap.size, 0, none⟩) m7 z2
         have z3 := cell_below b8 (p := ⟨w5.heap.size, 1, none⟩) m7 z3))
  have b78 : Below w6'.heap.size w6' w8 := (show Below w6'.heap.size w6' w7 from ⟨b7.os, b7.tape, b7.output, b7.size, b7.block⟩).trans (b8.mono b7.size)
  have k8 := k6.trans (b78.mono k6.size)
  have os := own_below os b78
  have og := own_below og b78
  have o3 := Mem.own_below o3 b78
  have o4 := Mem.own_below o4 b78
  have m8 := Nat.lt_of_lt_of_le m6 b78.size
  have l8 := Nat.lt_of_lt_of_le l6 b78.size
  have s8 : w6.heap.size ≤ w8.heap.size := Nat.le_trans b6'.size b78.size
  clear x0 x1 y0 y1 r3 r4
  go_wp2_with fail
  refine (markSystem_M s Q1 r1 t1 Q2 r2 t2 f3 f4 1 w8 o3 o4 nd (by omega) (by omega) hsz).mono ?_
  rintro e w9 ⟨rfl, p9⟩
  rw [← hmk.out]
  have os := slFirstState_row os p9 fun g hg hc => by have := ls g hg; have := lo5 g hc; omega
  have og := slFirstState_row og p9 fun g hg hc => by have := lg g hg; have := hi5 g hc; omega
  have k9 := k8.trans (p9.below (by rw [World.size_alloc]; omega) fun b hb => by have := lo5 b hb; rw [World.size_alloc]; omega)
  obtain ⟨B9, x0, x1, l9⟩ := BX.out w9 k9
  have nq : (1 + (m : Int) != 1 + (m : Int)) = false := by simp
  go_wp2_with fail
  refine (eqIntS_same Ag As m cg cs F w9 (Rd.of_own og) (Rd.of_own os) (by unfold maxLen; omega)).mono ?_
  rintro e w10 ⟨rfl, b10⟩
  have k10 := k9.trans (b10.mono k9.size)
  have os := own_below os b10
  have og := own_below og b10
  go_wp2_with fail
  refine (markIntS_any (w5.heap.size + 1) Ag m cg F 1 w10 og (by omega) (by omega) (by omega)).mono ?_
  rintro e w11 ⟨rfl, og, p11⟩
  have os := os.kept p11 (ne_of_ranges ls lg (.inl (by omega)))
  have k11 := k10.trans (grown_below p11 k10.size fun g hg => by have := lg g hg; rw [World.size_alloc]; omega)
  go_wp2_with fail
  refine (heldIntS_any Ag m cg 1 w11 (Rd.of_own og) (by omega) (by omega) (by omega)).mono ?_
  rintro e w12 ⟨rfl, b12⟩
  have k12 := k11.trans (b12.mono k11.size)
  have os := own_below os b12
  have og := own_below og b12
  obtain ⟨B12, x0, x1, l12⟩ := BX.out w12 k12
  go_wp2_with fail
  refine (toSystem_any s A1 n1 c1 A2 n2 c2 w12 (Mem.rd_on h1 B12) (Mem.rd_on h2 B12) fits.out).mono ?_
  rintro e w13 ⟨P1, p1, q1, P2, p2, q2, f1, f2, rfl, o1, o2, _, _, b13⟩
  have k13 := k12.trans (b13.mono k12.size)
  have os := own_below os b13
  have og := own_below og b13
  go_wp2_with fail
  refine (CI.out P1 p1 q1 P2 p2 q2 w13 (Mem.own_rd o1) (Mem.own_rd o2)).mono ?_
  rintro e w14 ⟨vh, rfl, oh, b14⟩
  rw [← HM.out] at oh
  obtain ⟨Ah, ch, rfl, _, _⟩ := own_form oh
  have k14 := k13.trans (b14.mono k13.size)
  have os := own_below os b14
  have og := own_below og b14
  go_wp2_with fail
  refine (eqIntS_same Ah As m ch cs F w14 (Rd.of_own oh) (Rd.of_own os) (by unfold maxLen; omega)).mono ?_
  rintro e w15 ⟨rfl, b15⟩
  have k15 := k14.trans (b15.mono k14.size)
  have og := own_below og b15
  go_wp2_with fail
  refine (heldIntS_any Ag m cg 1 w15 (Rd.of_own og) (by omega) (by omega) (by omega)).mono ?_
  rintro e w16 ⟨rfl, b16⟩
  have k16 := k15.trans (b16.mono k15.size)
  go_wp2
  go_ret
  exact ⟨rfl, below_call k16⟩

set_option maxRecDepth 100000 in
theorem slFirstState_lifted (os : Os) (started : os.Started) (H : Type) (enc : TypeId × Value → H) :
    ReturnsInHanded {} Try.checked os 4 .any (Rows.fnExactFirstStateSpec.pre6 enc Try.prog Try.f4 Rows.fnExactFirstStateRow.domain false) (Rows.fnExactFirstStateSpec.post enc Try.prog Try.f4 false true false false) := by
  refine returnsInHanded_of_change (C := Try.checked) Try.own started (by kernel_rfl) Try.func4
    (ChangeSpec.witness6 (enc := enc) (C := Try.checked) false ⟨#[], #[.agg #[.slice none 0 0, .slice none 0 0]], []⟩ 8 (by kernel_rfl) (by kernel_rfl) (by kernel_rfl) (by kernel_rfl)) ?_
  intro W base args ds gs before hval0 hW hcnd _
  have hval : ∀ (j : Nat) t v, Try.f4.params[j]? = some t → args[j]? = some v → Value.okWide Try.prog W .any base t v := hval0
  have hW' := hW
  have hW2 := hW
  obtain ⟨p, q, hA0, hV, rfl, hfz, hnd⟩ := hW2
  have hA : DataW.TrodAll enc Try.prog W 0 (fun _ => true) true Try.f4.params.toList args.toList ds p := hA0
  rw [Try.params4] at hA hval
  obtain ⟨u0, d0, rfl, rfl, h0⟩ := trodAll_one hA
  obtain ⟨rfl, rfl⟩ := trodVars_none hV
  have k0 := h0
  obtain ⟨A1, n1, c1, A2, n2, c2, s, rfl, r1, r2⟩ := open_system (hval 0 25 u0 rfl rfl) h0
  clear hA0 hval0
  simp only [List.append_nil] at hW'
  have hlt : ∀ x ∈ p, x.block < W.heap.size := fun x hx => hW'.lt x (by simpa using hx)
  refine (slFirstState_any s A1 n1 c1 A2 n2 c2 W r1 r2).mono fun e W' ⟨he, hb⟩ => ?_
  subst he
  exact ⟨_, rfl, post_below (pa := p) (pv := []) hW' (fun _ _ _ => trodAll_mk1 (shut_bool Try.underlying4 _))
    (fun sp hsp => trodAll_mk1 (WideElems.Trod_stays Try.laidOut (by kernel_rfl) (of_decide_eq_true (by kernel_rfl)) k0 (fun x hx => hb.same (hlt x (by simp [hx]))) (fun x hx => hsp x (by simp [hx])))) (fun _ _ => rfl) (by simp)
    hb (ok_one (by kernel_rfl) rfl (okWide_bool_mk Try.underlying4 _))⟩

theorem slFirstState_holds : Rows.FnExactFirstStateSaid :=
  OpenClaim.holds_of_wide 4 Try.f4 rfl rfl rfl rfl rfl rfl rfl ⟨rfl, rfl, rfl, rfl, rfl⟩ rfl rfl rfl rfl rfl (by kernel_rfl) Try.func4 (by kernel_rfl)
    (of_decide_eq_true (by kernel_rfl)) (by unfold Func.isWrapper; first | (rw [if_pos (by decide +kernel)]; kernel_rfl) | (rw [if_neg (by decide +kernel)]; exact ⟨rfl, rfl⟩))
    (fun os started H enc _ => slFirstState_lifted os started H enc)
end Go.Proofs.Ytpaagplopefklaa
