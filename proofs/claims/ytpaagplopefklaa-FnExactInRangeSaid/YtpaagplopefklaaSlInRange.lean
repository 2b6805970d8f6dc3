/- For every input the law FnExactInRange returns true: the function answers as its model, and writes into no argument. -/
import Derived.Test.YtpaagplopefklaaInR
import Derived.Test.YtpaagplopefklaaEqSy
import Derived.Test.YtpaagplopefklaaOpenSy
import Derived.Deep.RegionHeld3
namespace Go.Proofs.Ytpaagplopefklaa
open Go.ChangeShapes Go.WideShapes Go.ChangeAt Go.RowKit

theorem slInRange_box {w : World} {v1 v2 : Value} (t : TypeId) : ∀ W, Below (w.alloc (.cells #[v1, v2] t)).heap.size (w.alloc (.cells #[v1, v2] t)) W →
    Below w.heap.size w W ∧ W.cell? ⟨w.heap.size, 0, none⟩ = some v1 ∧ W.cell? ⟨w.heap.size, 1, none⟩ = some v2 ∧ w.heap.size < W.heap.size :=
  fun W hW => ⟨below_call hW, ((Blk.new w _ _).below hW (by simp)).cell 0, ((Blk.new w _ _).below hW (by simp)).cell 1, by have := hW.size; simp at this; omega⟩

set_option maxRecDepth 100000 in
set_option maxHeartbeats 4000000 in
theorem slInRange_any (s : Sy) (st : List Int) (A1 : Option Addr) (n1 c1 : Nat) (A2 : Option Addr) (n2 c2 : Nat) (A3 : Option Addr) (n3 c3 : Nat) (w : World) (h1 : Mem.rd w w.heap.size [.slice A1 n1 c1] s.vars) (h2 : Mem.rd w w.heap.size [.slice A2 n2 c2] s.rules) (h3 : Mem.rd w w.heap.size [.slice A3 n3 c3] st) :
    Calls Try.prog 5 #[.agg #[.slice A1 n1 c1, .slice A2 n2 c2], .slice A3 n3 c3] w (GivesBool w true) := by
  have m3 := rd_max h3
  unfold maxLen at m3
  by_cases big0 : 1048576 < n3
  · go_enter Try.func5, Try.ntmps5
    go_wp2
    go_ret
    exact ⟨rfl, below_alloc _ _⟩
  by_cases big : 1048576 < (szSy s : Int)
  · go_enter Try.func5, Try.ntmps5
    go_wp2_with fail
    refine (szSystem_any s A1 n1 c1 A2 n2 c2 1048576 _ (Mem.rd_on_alloc h1 _) (Mem.rd_on_alloc h2 _) (by omega) (by omega)).mono ?_
    rintro e w2 ⟨rfl, b2⟩
    rw [rest_no big]
    go_wp2
    go_ret
    exact ⟨rfl, below_call b2⟩
  have fits := Lib.hid (Sy.fits_of (s := s) (by omega))
  have i3 : n3 ≤ 1048576 := by omega
  have CS := Lib.hid (fun A n c A' n' c' A'' n'' c'' w h h' h'' => inRange_spec s st A n c A' n' c' A'' n'' c'' w h h' h'')
  have CI := Lib.hid (fun A n c A' n' c' A'' n'' c'' w h h' h'' => inRange_impl s st A n c A' n' c' A'' n'' c'' w h h' h'')
  generalize inRangeB s st = z at CS CI
  have nz : (z != z) = false := by simp
  have BX := Lib.hid (slInRange_box (w := w) (v1 := .slice A1 n1 c1) (v2 := .slice A2 n2 c2) 25)
  go_enter Try.func5, Try.ntmps5
  go_wp2_with fail
  refine (szSystem_any s A1 n1 c1 A2 n2 c2 1048576 _ (Mem.rd_on_alloc h1 _) (Mem.rd_on_alloc h2 _) (by omega) (by omega)).mono ?_
  rintro e w2 ⟨rfl, b2⟩
  rw [rest_yes (by omega)]
  obtain ⟨B2, x0, x1, _⟩ := BX.out w2 b2
  go_wp2_with fail
  refine (toSystem_any s A1 n1 c1 A2 n2 c2 w2 (Mem.rd_on h1 B2) (Mem.rd_on h2 B2) fits.out).mono ?_
  rintro e w3 ⟨P1, p1, q1, P2, p2, q2, f1, f2, rfl, o1, o2, _, _, b3⟩
  have k3 := b2.trans (b3.mono b2.size)
  obtain ⟨B3, x0, x1, _⟩ := BX.out w3 k3
  go_wp2_with fail
  refine (toIntS_M A3 n3 c3 st w3 (Mem.rd_on h3 B3) i3).mono ?_
  rintro e w3' ⟨P3, p3, q3, f3', rfl, o3', _, _, b3'⟩
  have o1 := Mem.own_below o1 b3'
  have o2 := Mem.own_below o2 b3'
  have k3 := k3.trans (b3'.mono k3.size)
  go_wp2_with fail
  refine (CS.out P1 p1 q1 P2 p2 q2 P3 p3 q3 w3' (Mem.own_rd o1) (Mem.own_rd o2) (Mem.own_rd o3')).mono ?_
  rintro e w4 ⟨rfl, b4⟩
  have k4 := k3.trans (b4.mono k3.size)
  obtain ⟨B4, x0, x1, _⟩ := BX.out w4 k4
  go_wp2_with fail
  refine (toSystem_any s A1 n1 c1 A2 n2 c2 w4 (Mem.rd_on h1 B4) (Mem.rd_on h2 B4) fits.out).mono ?_
  rintro e w5 ⟨Q1, r1, t1, Q2, r2, t2, f3, f4, rfl, o3, o4, _, _, b5⟩
  have k5 := k4.trans (b5.mono k4.size)
  have B5 := (BX.out w5 k5).1
  have B5' := B5.trans ((below_alloc w5 (.cells #[.slice Q1 r1 t1, .slice Q2 r2 t2] 31)).mono B5.size)
  go_wp2_with fail
  refine (toIntS_M A3 n3 c3 st _ (Mem.rd_on h3 B5') i3).mono ?_
  rintro e w5' ⟨Q3, r3, t3, f7, rfl, o7, _, _, b5'⟩
  have o3 := Mem.own_below o3 (below_call b5')
  have o4 := Mem.own_below o4 (below_call b5')
  have k5 := k5.trans ((below_call b5').mono k5.size)
  obtain ⟨_, y0, y1, m5⟩ := slInRange_box 31 w5' b5'
  go_wp2_with fail
  refine (CI.out Q1 r1 t1 Q2 r2 t2 Q3 r3 t3 w5' (Mem.own_rd o3) (Mem.own_rd o4) (Mem.own_rd o7)).mono ?_
  rintro e w6 ⟨rfl, b6⟩
  have k6 := k5.trans (b6.mono k5.size)
  have o3 := Mem.own_below o3 b6
  have o4 := Mem.own_below o4 b6
  have o7 := Mem.own_below o7 b6
  obtain ⟨B6, x0, x1, l6⟩ := BX.out w6 k6
  have y0 := cell_below b6 (p := ⟨w5.heap.size, 0, none⟩) m5 y0
  have y1 := cell_below b6 (p := ⟨w5.heap.size, 1, none⟩) m5 y1
  have m6 := Nat.lt_of_lt_of_le m5 b6.size
  have r3' := Mem.own_rd o3
  have r4' := Mem.own_rd o4
  go_wp2
  go_region_held3 (fun w' => w'.cell? ⟨w.heap.size, 0, none⟩ = some (.slice A1 n1 c1) ∧ w'.cell? ⟨w.heap.size, 1, none⟩ = some (.slice A2 n2 c2) ∧ w'.cell? ⟨w5.heap.size, 0, none⟩ = some (.slice Q1 r1 t1) ∧ w'.cell? ⟨w5.heap.size, 1, none⟩ = some (.slice Q2 r2 t2)) (go_keep)
    (first
      | (go_at_call 14; refine (toSystem_any s A1 n1 c1 A2 n2 c2 w6.drew (Mem.rd_drew (Mem.rd_on h1 B6)) (Mem.rd_drew (Mem.rd_on h2 B6)) fits.out).mono ?_; rintro e w7 ⟨R1, g1, j1, R2, g2, j2, f5, f6, rfl, o5, o6, _, _, b7⟩
         have z0 := cell_below b7 (p := ⟨w.heap.size, 0, none⟩) l6 x0
         have z1 := cell_below b7 (p := ⟨w.heap.size, 1, none⟩) l6 x1
         have z2 := cell_below b7 (p := ⟨w5.heap.size, 0, none⟩) m6 y0
         have z3 := cell_below b7 (p := ⟨w5.heap.size, 1, none⟩) m6 y1
         have l7 := Nat.lt_of_lt_of_le l6 b7.size
         have m7 := Nat.lt_of_lt_of_le m6 b7.size)
      | (go_at_call 16; refine (eqSystem_same s Q1 r1 t1 Q2 r2 t2 R1 g1 j1 R2 g2 j2 _ (Mem.rd_on (Mem.rd_drew r3') b7) (Mem.rd_on (Mem.rd_drew r4') b7) (Mem.own_rd o5) (Mem.own_rd o6) fits.out).mono ?_; rintro e w8 ⟨rfl, b8⟩
         have z0 := cell_below b8 (p := ⟨w.heap.size, 0, none⟩) l7 z0
         have z1 := cell_below b8 (p := ⟨w.heap.size, 1, none⟩) l7 z1
         have z2 := cell_below b8 (p := ⟨w5.heap.size, 0, none⟩) m7 z2
         have z3 := cell_below b8 (p := ⟨w5.heap.size, 1, none⟩) m7 z3))
  have b78 : Below w6.heap.size w6 w8 := (show Below w6.heap.size w6 w7 from ⟨b7.os, b7.tape, b7.output, b7.size, b7.block⟩).trans (b8.mono b7.size)
  have B8 := B6.trans (b78.mono B6.size)
  have o7 := Mem.own_below o7 b78
  go_wp2_with fail
  refine (toIntS_M A3 n3 c3 st w8 (Mem.rd_on h3 B8) i3).mono ?_
  rintro e w9 ⟨S3, u3, v3, f9, rfl, o9, _, _, b9⟩
  have o7 := Mem.own_below o7 b9
  have B9 := B8.trans (b9.mono B8.size)
  go_wp2_with fail
  refine (eqIntS_M Q3 S3 r3 t3 u3 v3 st w9 (Mem.own_rd o7) (Mem.own_rd o9)).mono ?_
  rintro e w10 ⟨rfl, b10⟩
  go_wp2
  go_ret
  exact ⟨rfl, B9.trans (b10.mono B9.size)⟩

set_option maxRecDepth 100000 in
theorem slInRange_lifted (os : Os) (started : os.Started) (H : Type) (enc : TypeId × Value → H) :
    ReturnsInHanded {} Try.checked os 5 .any (Rows.fnExactInRangeSpec.pre6 enc Try.prog Try.f5 Rows.fnExactInRangeRow.domain false) (Rows.fnExactInRangeSpec.post enc Try.prog Try.f5 false true false false) := by
  refine returnsInHanded_of_change (C := Try.checked) Try.own started (by kernel_rfl) Try.func5
    (ChangeSpec.witness6 (enc := enc) (C := Try.checked) false ⟨#[], #[.agg #[.slice none 0 0, .slice none 0 0], .slice none 0 0], []⟩ 8 (by kernel_rfl) (by kernel_rfl) (by kernel_rfl) (by kernel_rfl)) ?_
  intro W base args ds gs before hval0 hW hcnd _
  have hval : ∀ (j : Nat) t v, Try.f5.params[j]? = some t → args[j]? = some v → Value.okWide Try.prog W .any base t v := hval0
  have hW' := hW
  have hW2 := hW
  obtain ⟨p, q, hA0, hV, rfl, hfz, hnd⟩ := hW2
  have hA : DataW.TrodAll enc Try.prog W 0 (fun _ => true) true Try.f5.params.toList args.toList ds p := hA0
  rw [Try.params5] at hA hval
  obtain ⟨u0, u1, d0, d1, p0, p1, rfl, rfl, rfl, h0, h1⟩ := trodAll_two hA
  obtain ⟨rfl, rfl⟩ := trodVars_none hV
  have k0 := h0
  have k1 := h1
  obtain ⟨A1, n1, c1, A2, n2, c2, s, rfl, r1, r2⟩ := open_system (hval 0 25 u0 rfl rfl) h0
  obtain ⟨A3, n3, c3, st, rfl, hm3, r3⟩ := open_intS (hval 1 35 u1 rfl rfl) h1
  clear hA0 hval0
  simp only [List.append_nil] at hW'
  have hlt : ∀ x ∈ p0 ++ p1, x.block < W.heap.size := fun x hx => hW'.lt x (by simpa using hx)
  refine (slInRange_any s st A1 n1 c1 A2 n2 c2 A3 n3 c3 W r1 r2 (rd_ints.2 ⟨hm3, r3⟩)).mono fun e W' ⟨he, hb⟩ => ?_
  subst he
  exact ⟨_, rfl, post_below (pa := p0 ++ p1) (pv := []) hW' (fun _ _ _ => trodAll_mk1 (shut_bool Try.underlying4 _))
    (fun sp hsp => trodAll_mk2 (WideElems.Trod_stays Try.laidOut (by kernel_rfl) (of_decide_eq_true (by kernel_rfl)) k0 (fun x hx => hb.same (hlt x (by simp [hx]))) (fun x hx => hsp x (by simp [hx])))
      (WideElems.Trod_stays Try.laidOut (by kernel_rfl) (of_decide_eq_true (by kernel_rfl)) k1 (fun x hx => hb.same (hlt x (by simp [hx]))) (fun x hx => hsp x (by simp [hx])))) (fun _ _ => rfl) (by simp)
    hb (ok_one (by kernel_rfl) rfl (okWide_bool_mk Try.underlying4 _))⟩

theorem slInRange_holds : Rows.FnExactInRangeSaid :=
  OpenClaim.holds_of_wide 5 Try.f5 rfl rfl rfl rfl rfl rfl rfl ⟨rfl, rfl, rfl, rfl, rfl⟩ rfl rfl rfl rfl rfl (by kernel_rfl) Try.func5 (by kernel_rfl)
    (of_decide_eq_true (by kernel_rfl)) (by unfold Func.isWrapper; first | (rw [if_pos (by decide +kernel)]; kernel_rfl) | (rw [if_neg (by decide +kernel)]; exact ⟨rfl, rfl⟩))
    (fun os started H enc _ => slInRange_lifted os started H enc)
end Go.Proofs.Ytpaagplopefklaa
