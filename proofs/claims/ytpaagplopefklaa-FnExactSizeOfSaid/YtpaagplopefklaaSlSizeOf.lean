/- For every input the law FnExactSizeOf returns true: the function answers as its model, and writes into no argument. -/
import Derived.Test.YtpaagplopefklaaSet
import Derived.Test.YtpaagplopefklaaEqSy
import Derived.Test.YtpaagplopefklaaOpenSy
import Derived.Deep.RegionHeld3
namespace Go.Proofs.Ytpaagplopefklaa
open Go.ChangeShapes Go.WideShapes Go.ChangeAt Go.RowKit

theorem slSizeOf_box {w : World} {v1 v2 : Value} (t : TypeId) : ∀ W, Below (w.alloc (.cells #[v1, v2] t)).heap.size (w.alloc (.cells #[v1, v2] t)) W →
    Below w.heap.size w W ∧ W.cell? ⟨w.heap.size, 0, none⟩ = some v1 ∧ W.cell? ⟨w.heap.size, 1, none⟩ = some v2 ∧ w.heap.size < W.heap.size :=
  fun W hW => ⟨below_call hW, ((Blk.new w _ _).below hW (by simp)).cell 0, ((Blk.new w _ _).below hW (by simp)).cell 1, by have := hW.size; simp at this; omega⟩

set_option maxRecDepth 100000 in
set_option maxHeartbeats 4000000 in
theorem slSizeOf_any (s : Sy) (A1 : Option Addr) (n1 c1 : Nat) (A2 : Option Addr) (n2 c2 : Nat) (w : World) (h1 : Mem.rd w w.heap.size [.slice A1 n1 c1] s.vars) (h2 : Mem.rd w w.heap.size [.slice A2 n2 c2] s.rules) :
    Calls Try.prog 8 #[.agg #[.slice A1 n1 c1, .slice A2 n2 c2]] w (GivesBool w true) := by
  by_cases big : 1048576 < (szSy s : Int)
  · go_enter Try.func8, Try.ntmps8
    go_wp2_with fail
    refine (szSystem_any s A1 n1 c1 A2 n2 c2 1048576 _ (Mem.rd_on_alloc h1 _) (Mem.rd_on_alloc h2 _) (by omega) (by omega)).mono ?_
    rintro e w2 ⟨rfl, b2⟩
    rw [rest_no big]
    go_wp2
    go_ret
    exact ⟨rfl, below_call b2⟩
  have fits := Lib.hid (Sy.fits_of (s := s) (by omega))
  have CS := Lib.hid (fun A n c A' n' c' w h h' => sizeOf_spec s A n c A' n' c' w h h')
  have CI := Lib.hid (fun A n c A' n' c' w h h' => sizeOf_impl s A n c A' n' c' w h h')
  generalize sizeOf s = z at CS CI
  have nz : (z != z) = false := by simp
  have BX := Lib.hid (slSizeOf_box (w := w) (v1 := .slice A1 n1 c1) (v2 := .slice A2 n2 c2) 25)
  go_enter Try.func8, Try.ntmps8
  go_wp2_with fail
  refine (szSystem_any s A1 n1 c1 A2 n2 c2 1048576 _ (Mem.rd_on_alloc h1 _) (Mem.rd_on_alloc h2 _) (by omega) (by omega)).mono ?_
  rintro e w2 ⟨rfl, b2⟩
  rw [rest_yes (by omega)]
  obtain ⟨B2, x0, x1, _⟩ := BX.out w2 b2
  go_wp2_with fail
  refine (toSystem_any s A1 n1 c1 A2 n2 c2 w2 (Mem.rd_on h1 B2) (Mem.rd_on h2 B2) fits.out).mono ?_
  rintro e w3 ⟨P1, p1, q1, P2, p2, q2, f1, f2, rfl, o1, o2, _, _, b3⟩
  have k3 := b2.trans (b3.mono b2.size)
  obtain ⟨B3, x0, x1, _⟩ := BX.out w3 k3
  go_wp2_with fail
  refine (CS.out P1 p1 q1 P2 p2 q2 w3 (Mem.own_rd o1) (Mem.own_rd o2)).mono ?_
  rintro e w4 ⟨rfl, b4⟩
  have k4 := k3.trans (b4.mono k3.size)
  obtain ⟨B4, x0, x1, _⟩ := BX.out w4 k4
  go_wp2_with fail
  refine (toSystem_any s A1 n1 c1 A2 n2 c2 w4 (Mem.rd_on h1 B4) (Mem.rd_on h2 B4) fits.out).mono ?_
  rintro e w5 ⟨Q1, r1, t1, Q2, r2, t2, f3, f4, rfl, o3, o4, _, _, b5⟩
  have k5 := k4.trans (b5.mono k4.size)
  go_wp2_with fail
  refine (CI.out Q1 r1 t1 Q2 r2 t2 _ (Mem.rd_on_alloc (Mem.own_rd o3) _) (Mem.rd_on_alloc (Mem.own_rd o4) _)).mono ?_
  rintro e w6 ⟨rfl, b6⟩
  have k6 := k5.trans ((below_call b6).mono k5.size)
  obtain ⟨B6, x0, x1, l6⟩ := BX.out w6 k6
  obtain ⟨B6', y0, y1, m6⟩ := slSizeOf_box 31 w6 b6
  have r3 := Mem.rd_on (Mem.own_rd o3) B6'
  have r4 := Mem.rd_on (Mem.own_rd o4) B6'
  go_wp2
  go_region_held3 (fun w' => w'.cell? ⟨w.heap.size, 0, none⟩ = some (.slice A1 n1 c1) ∧ w'.cell? ⟨w.heap.size, 1, none⟩ = some (.slice A2 n2 c2) ∧ w'.cell? ⟨w5.heap.size, 0, none⟩ = some (.slice Q1 r1 t1) ∧ w'.cell? ⟨w5.heap.size, 1, none⟩ = some (.slice Q2 r2 t2)) (go_keep)
    (first
      | (go_at_call 14; refine (toSystem_any s A1 n1 c1 A2 n2 c2 w6.drew (Mem.rd_drew (Mem.rd_on h1 B6)) (Mem.rd_drew (Mem.rd_on h2 B6)) fits.out).mono ?_; rintro e w7 ⟨R1, g1, j1, R2, g2, j2, f5, f6, rfl, o5, o6, _, _, b7⟩
         have z0 := cell_below b7 (p := ⟨w.heap.size, 0, none⟩) l6 x0
         have z1 := cell_below b7 (p := ⟨w.heap.size, 1, none⟩) l6 x1
         have z2 := cell_below b7 (p := ⟨w5.heap.size, 0, none⟩) m6 y0
         have z3 := cell_below b7 (p := ⟨w5.heap.size, 1, none⟩) m6 y1
         have l7 := Nat.lt_of_lt_of_le l6 b7.size
         have m7 := Nat.lt_of_lt_of_le m6 b7.size)
      | (go_at_call 16; refine (eqSystem_same s Q1 r1 t1 Q2 r2 t2 R1 g1 j1 R2 g2 j2 _ (Mem.rd_on (Mem.rd_drew r3) b7) (Mem.rd_on (Mem.rd_drew r4) b7) (Mem.own_rd o5) (Mem.own_rd o6) fits.out).mono ?_; rintro e w8 ⟨rfl, b8⟩
         have z0 := cell_below b8 (p := ⟨w.heap.size, 0, none⟩) l7 z0
         have z1 := cell_below b8 (p := ⟨w.heap.size, 1, none⟩) l7 z1
         have z2 := cell_below b8 (p := ⟨w5.heap.size, 0, none⟩) m7 z2
         have z3 := cell_below b8 (p := ⟨w5.heap.size, 1, none⟩) m7 z3))
  all_goals
    go_wp2
    go_ret
    exact ⟨rfl, (B6.trans (Below.mono (B' := w.heap.size) ⟨b7.os, b7.tape, b7.output, b7.size, b7.block⟩ B6.size)).trans (b8.mono (Nat.le_trans B6.size b7.size))⟩

set_option maxRecDepth 100000 in
theorem slSizeOf_lifted (os : Os) (started : os.Started) (H : Type) (enc : TypeId × Value → H) :
    ReturnsInHanded {} Try.checked os 8 .any (Rows.fnExactSizeOfSpec.pre6 enc Try.prog Try.f8 Rows.fnExactSizeOfRow.domain false) (Rows.fnExactSizeOfSpec.post enc Try.prog Try.f8 false true false false) := by
  refine returnsInHanded_of_change (C := Try.checked) Try.own started (by kernel_rfl) Try.func8
    (ChangeSpec.witness6 (enc := enc) (C := Try.checked) false ⟨#[], #[.agg #[.slice none 0 0, .slice none 0 0]], []⟩ 8 (by kernel_rfl) (by kernel_rfl) (by kernel_rfl) (by kernel_rfl)) ?_
  intro W base args ds gs before hval0 hW hcnd _
  have hval : ∀ (j : Nat) t v, Try.f8.params[j]? = some t → args[j]? = some v → Value.okWide Try.prog W .any base t v := hval0
  have hW' := hW
  have hW2 := hW
  obtain ⟨p, q, hA0, hV, rfl, hfz, hnd⟩ := hW2
  have hA : DataW.TrodAll enc Try.prog W 0 (fun _ => true) true Try.f8.params.toList args.toList ds p := hA0
  rw [Try.params8] at hA hval
  obtain ⟨u0, d0, rfl, rfl, h0⟩ := trodAll_one hA
  obtain ⟨rfl, rfl⟩ := trodVars_none hV
  have k0 := h0
  obtain ⟨A1, n1, c1, A2, n2, c2, s, rfl, r1, r2⟩ := open_system (hval 0 25 u0 rfl rfl) h0
  clear hA0 hval0
  simp only [List.append_nil] at hW'
  have hlt : ∀ x ∈ p, x.block < W.heap.size := fun x hx => hW'.lt x (by simpa using hx)
  refine (slSizeOf_any s A1 n1 c1 A2 n2 c2 W r1 r2).mono fun e W' ⟨he, hb⟩ => ?_
  subst he
  exact ⟨_, rfl, post_below (pa := p) (pv := []) hW' (fun _ _ _ => trodAll_mk1 (shut_bool Try.underlying4 _))
    (fun sp hsp => trodAll_mk1 (WideElems.Trod_stays Try.laidOut (by kernel_rfl) (of_decide_eq_true (by kernel_rfl)) k0 (fun x hx => hb.same (hlt x (by simp [hx]))) (fun x hx => hsp x (by simp [hx])))) (fun _ _ => rfl) (by simp)
    hb (ok_one (by kernel_rfl) rfl (okWide_bool_mk Try.underlying4 _))⟩

theorem slSizeOf_holds : Rows.FnExactSizeOfSaid :=
  OpenClaim.holds_of_wide 8 Try.f8 rfl rfl rfl rfl rfl rfl rfl ⟨rfl, rfl, rfl, rfl, rfl⟩ rfl rfl rfl rfl rfl (by kernel_rfl) Try.func8 (by kernel_rfl)
    (of_decide_eq_true (by kernel_rfl)) (by unfold Func.isWrapper; first | (rw [if_pos (by decide +kernel)]; kernel_rfl) | (rw [if_neg (by decide +kernel)]; exact ⟨rfl, rfl⟩))
    (fun os started H enc _ => slSizeOf_lifted os started H enc)
end Go.Proofs.Ytpaagplopefklaa
