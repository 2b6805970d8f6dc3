/- For every input the law FnExactTraceValid returns true: the function answers as its model, and writes into no argument. -/
import Derived.Test.YtmlhnnkdecabpaaTvE
import Derived.Test.YtmlhnnkdecabpaaOwnW
import Derived.Test.YtmlhnnkdecabpaaEqSy
import Derived.Test.YtmlhnnkdecabpaaOpenSy
import Derived.Test.YtmlhnnkdecabpaaPost
import Derived.Deep.RegionHeld3
namespace Go.Proofs.Ytmlhnnkdecabpaa
open Go.ChangeShapes Go.WideShapes Go.ChangeAt Go.RowKit

theorem slTraceValid_box {w : World} {v1 v2 : Value} (t : TypeId) : ∀ W, Below (w.alloc (.cells #[v1, v2] t)).heap.size (w.alloc (.cells #[v1, v2] t)) W →
    Below w.heap.size w W ∧ W.cell? ⟨w.heap.size, 0, none⟩ = some v1 ∧ W.cell? ⟨w.heap.size, 1, none⟩ = some v2 ∧ w.heap.size < W.heap.size :=
  fun W hW => ⟨below_call hW, ((Blk.new w _ _).below hW (by simp)).cell 0, ((Blk.new w _ _).below hW (by simp)).cell 1, by have := hW.size; simp at this; omega⟩

theorem slTraceValid_box2 {w : World} {v1 v2 u1 u2 : Value} (t t2 : TypeId) : ∀ W, Below ((w.alloc (.cells #[v1, v2] t)).alloc (.cells #[u1, u2] t2)).heap.size ((w.alloc (.cells #[v1, v2] t)).alloc (.cells #[u1, u2] t2)) W →
    Below w.heap.size w W ∧ W.cell? ⟨w.heap.size, 0, none⟩ = some v1 ∧ W.cell? ⟨w.heap.size, 1, none⟩ = some v2 ∧ W.cell? ⟨w.heap.size + 1, 0, none⟩ = some u1 ∧ W.cell? ⟨w.heap.size + 1, 1, none⟩ = some u2 ∧ w.heap.size < W.heap.size ∧ w.heap.size + 1 < W.heap.size := fun W hW => by
  have hs := hW.size
  rw [World.size_alloc, World.size_alloc] at hs
  have k0 := ((Blk.new w #[v1, v2] t).alloc (.cells #[u1, u2] t2)).below hW (by simp; omega)
  have k1 := (Blk.new (w.alloc (.cells #[v1, v2] t)) #[u1, u2] t2).below hW (by simp)
  rw [World.size_alloc] at k1
  exact ⟨below_call (below_call hW), k0.cell 0, k0.cell 1, k1.cell 0, k1.cell 1, by omega, by omega⟩

set_option maxRecDepth 100000 in
set_option maxHeartbeats 8000000 in
theorem slTraceValid_any (s : Sy) (t : Tr) (A_s0 : Option Addr) (n_s0 c_s0 : Nat) (A_s1 : Option Addr) (n_s1 c_s1 : Nat) (A_t0 : Option Addr) (n_t0 c_t0 : Nat) (A_t1 : Option Addr) (n_t1 c_t1 : Nat) (w : World) (h_s0 : Mem.rd w w.heap.size [.slice A_s0 n_s0 c_s0] s.vars) (h_s1 : Mem.rd w w.heap.size [.slice A_s1 n_s1 c_s1] s.rules) (h_t0 : Mem.rd w w.heap.size [.slice A_t0 n_t0 c_t0] t.states) (h_t1 : Mem.rd w w.heap.size [.slice A_t1 n_t1 c_t1] t.rules) :
    Calls Try.prog 4 #[.agg #[.slice A_s0 n_s0 c_s0, .slice A_s1 n_s1 c_s1], .agg #[.slice A_t0 n_t0 c_t0, .slice A_t1 n_t1 c_t1]] w (GivesBool w true) := by
  have m_s0 := rd_max h_s0
  have m_s1 := rd_max h_s1
  have m_t0 := rd_max h_t0
  have m_t1 := rd_max h_t1
  unfold maxLen at m_s0 m_s1 m_t0 m_t1
  have BX := Lib.hid (slTraceValid_box2 (w := w) (v1 := .slice A_s0 n_s0 c_s0) (v2 := .slice A_s1 n_s1 c_s1) (u1 := .slice A_t0 n_t0 c_t0) (u2 := .slice A_t1 n_t1 c_t1) 36 39)
  by_cases big_s : 1048576 < (szSy s : Int)
  · go_enter Try.func4, Try.ntmps4
    go_wp2_with fail
    refine (szSystem_any s A_s0 n_s0 c_s0 A_s1 n_s1 c_s1 (1048576) _ (Mem.rd_on_alloc (Mem.rd_on_alloc h_s0 _) _) (Mem.rd_on_alloc (Mem.rd_on_alloc h_s1 _) _) (by omega) (by omega)).mono ?_
    rintro e v0 ⟨rfl, bz0⟩
    have k := bz0
    rw [rest_no big_s]
    go_wp2
    go_ret
    exact ⟨rfl, by first | exact Below.refl _ _ | exact below_alloc _ _ | exact below_call k | exact below_call (below_call k) | exact k⟩
  by_cases big_t : 1048576 - (szSy s : Int) < (szTr t : Int)
  · go_enter Try.func4, Try.ntmps4
    go_wp2_with fail
    refine (szSystem_any s A_s0 n_s0 c_s0 A_s1 n_s1 c_s1 (1048576) _ (Mem.rd_on_alloc (Mem.rd_on_alloc h_s0 _) _) (Mem.rd_on_alloc (Mem.rd_on_alloc h_s1 _) _) (by omega) (by omega)).mono ?_
    rintro e v0 ⟨rfl, bz0⟩
    have k := bz0
    rw [rest_yes (by omega)]
    obtain ⟨B, x0, x1, x2, x3, lx, ly⟩ := BX.out _ k
    go_wp2_with fail
    refine (szTrace_any t A_t0 n_t0 c_t0 A_t1 n_t1 c_t1 (1048576 - (szSy s : Int)) _ (Mem.rd_on h_t0 (below_call (below_call k))) (Mem.rd_on h_t1 (below_call (below_call k))) (by omega) (by omega)).mono ?_
    rintro e v1 ⟨rfl, bz1⟩
    have k := k.trans (bz1.mono k.size)
    rw [rest_no big_t]
    go_wp2
    go_ret
    exact ⟨rfl, by first | exact Below.refl _ _ | exact below_alloc _ _ | exact below_call k | exact below_call (below_call k) | exact k⟩
  have fits_s := Lib.hid (Sy.fits_of (s := s) (by omega))
  have sz_s : szSy s ≤ 1048576 := by omega
  have fits_t := Lib.hid (Tr.fits_of (s := t) (by omega))
  have sz_t : szTr t ≤ 1048576 := by omega
  have CS := Lib.hid (fun A_s0' n_s0' c_s0' A_s1' n_s1' c_s1' A_t0' n_t0' c_t0' A_t1' n_t1' c_t1' w h_s0' h_s1' h_t0' h_t1' => traceValid_spec s t A_s0' n_s0' c_s0' A_s1' n_s1' c_s1' A_t0' n_t0' c_t0' A_t1' n_t1' c_t1' w h_s0' h_s1' h_t0' h_t1')
  have CI := Lib.hid (fun A_s0' n_s0' c_s0' A_s1' n_s1' c_s1' A_t0' n_t0' c_t0' A_t1' n_t1' c_t1' w h_s0' h_s1' h_t0' h_t1' => traceValid_impl s t A_s0' n_s0' c_s0' A_s1' n_s1' c_s1' A_t0' n_t0' c_t0' A_t1' n_t1' c_t1' w h_s0' h_s1' h_t0' h_t1')
  generalize traceB s t = F0 at CS CI
  have nz0 : (F0 != F0) = false := by simp
  go_enter Try.func4, Try.ntmps4
  go_wp2_with fail
  refine (szSystem_any s A_s0 n_s0 c_s0 A_s1 n_s1 c_s1 (1048576) _ (Mem.rd_on_alloc (Mem.rd_on_alloc h_s0 _) _) (Mem.rd_on_alloc (Mem.rd_on_alloc h_s1 _) _) (by omega) (by omega)).mono ?_
  rintro e v0 ⟨rfl, bz0⟩
  have k := bz0
  rw [rest_yes (by omega)]
  obtain ⟨B, x0, x1, x2, x3, lx, ly⟩ := BX.out _ k
  go_wp2_with fail
  refine (szTrace_any t A_t0 n_t0 c_t0 A_t1 n_t1 c_t1 (1048576 - (szSy s : Int)) _ (Mem.rd_on h_t0 (below_call (below_call k))) (Mem.rd_on h_t1 (below_call (below_call k))) (by omega) (by omega)).mono ?_
  rintro e v1 ⟨rfl, bz1⟩
  have k := k.trans (bz1.mono k.size)
  rw [rest_yes (by omega)]
  skip
  obtain ⟨B, x0, x1, x2, x3, lx, ly⟩ := BX.out _ k
  go_wp2
  go_region_held3 (fun w' => w'.cell? ⟨w.heap.size, 0, none⟩ = some (.slice A_s0 n_s0 c_s0) ∧ w'.cell? ⟨w.heap.size, 1, none⟩ = some (.slice A_s1 n_s1 c_s1) ∧ w'.cell? ⟨w.heap.size + 1, 0, none⟩ = some (.slice A_t0 n_t0 c_t0) ∧ w'.cell? ⟨w.heap.size + 1, 1, none⟩ = some (.slice A_t1 n_t1 c_t1)) (go_keep)
    (first
      | (go_at_call 20; refine (toSystem_any s A_s0 n_s0 c_s0 A_s1 n_s1 c_s1 v1.drew (Mem.rd_drew (Mem.rd_on h_s0 B)) (Mem.rd_drew (Mem.rd_on h_s1 B)) fits_s.out).mono ?_; rintro e w1 ⟨pA_s0, pn_s0, pc_s0, pA_s1, pn_s1, pc_s1, _, _, rfl, po_s0, po_s1, _, _, b1⟩
         have k1 := k.trans ((show Below v1.heap.size v1 w1 from ⟨b1.os, b1.tape, b1.output, b1.size, b1.block⟩).mono k.size)
         obtain ⟨B1, y10, y11, y12, y13, lx1, ly1⟩ := BX.out _ k1)
      | (go_at_call 21; refine (toTrace_any t A_t0 n_t0 c_t0 A_t1 n_t1 c_t1 _ (Mem.rd_on h_t0 B1) (Mem.rd_on h_t1 B1) fits_t.out).mono ?_; rintro e w2 ⟨pA_t0, pn_t0, pc_t0, pA_t1, pn_t1, pc_t1, _, _, rfl, po_t0, po_t1, _, _, b2⟩
         have k2 := k1.trans (b2.mono k1.size)
         obtain ⟨B2, y20, y21, y22, y23, lx2, ly2⟩ := BX.out _ k2)
      | (go_at_call 19; refine (CS.out pA_s0 pn_s0 pc_s0 pA_s1 pn_s1 pc_s1 pA_t0 pn_t0 pc_t0 pA_t1 pn_t1 pc_t1 _ (Mem.own_rd (Mem.own_below po_s0 b2)) (Mem.own_rd (Mem.own_below po_s1 b2)) (Mem.own_rd po_t0) (Mem.own_rd po_t1)).mono ?_; rintro e w3 ⟨rfl, b3⟩
         have k3 := k2.trans (b3.mono k2.size)
         obtain ⟨B3, y30, y31, y32, y33, lx3, ly3⟩ := BX.out _ k3))
  have k := k3
  obtain ⟨B, x0, x1, x2, x3, lx, ly⟩ := BX.out _ k
  have xlo_s_k := k.size
  go_wp2_with fail
  refine (toSystem_any s A_s0 n_s0 c_s0 A_s1 n_s1 c_s1 _ (Mem.rd_on h_s0 B) (Mem.rd_on h_s1 B) fits_s.out).mono ?_
  rintro e w4 ⟨xA_s0, xn_s0, xc_s0, xA_s1, xn_s1, xc_s1, xf_s0, xf_s1, rfl, xo_s0, xo_s1, xnd_s, xlo_s, b4⟩
  have sb4 := b4.size
  have k := k.trans (b4.mono k.size)
  obtain ⟨B, x0, x1, x2, x3, lx, ly⟩ := BX.out _ k
  have xlo_s0 : ∀ b ∈ xf_s0, _ := fun b hb => xlo_s b (List.mem_append_left _ hb)
  have xlo_s0_hi := Mem.own_lt xo_s0
  have xlo_s1 : ∀ b ∈ xf_s1, _ := fun b hb => xlo_s b (List.mem_append_right _ hb)
  have xlo_s1_hi := Mem.own_lt xo_s1
  have xlo_s_hi : ∀ b ∈ xf_s0 ++ xf_s1, _ := fun b hb => (List.mem_append.1 hb).elim (xlo_s0_hi b) (xlo_s1_hi b)
  have xlo_t_k := k.size
  go_wp2_with fail
  refine (toTrace_any t A_t0 n_t0 c_t0 A_t1 n_t1 c_t1 _ (Mem.rd_on_alloc (Mem.rd_on h_t0 B) _) (Mem.rd_on_alloc (Mem.rd_on h_t1 B) _) fits_t.out).mono ?_
  rintro e w5 ⟨xA_t0, xn_t0, xc_t0, xA_t1, xn_t1, xc_t1, xf_t0, xf_t1, rfl, xo_t0, xo_t1, xnd_t, xlo_t, b5⟩
  obtain ⟨_, xy_s0, xy_s1, xl_s⟩ := slTraceValid_box 46 w5 b5
  have zb5 := b5.size; rw [World.size_alloc] at zb5
  have b5 := below_call b5
  have sb5 := b5.size
  have k := k.trans (b5.mono k.size)
  have xo_s0 := Mem.own_below xo_s0 b5
  have xo_s1 := Mem.own_below xo_s1 b5
  obtain ⟨B, x0, x1, x2, x3, lx, ly⟩ := BX.out _ k
  simp only [World.size_alloc] at xlo_t
  have xlo_t0 : ∀ b ∈ xf_t0, _ := fun b hb => xlo_t b (List.mem_append_left _ hb)
  have xlo_t0_hi := Mem.own_lt xo_t0
  have xlo_t1 : ∀ b ∈ xf_t1, _ := fun b hb => xlo_t b (List.mem_append_right _ hb)
  have xlo_t1_hi := Mem.own_lt xo_t1
  have xlo_t_hi : ∀ b ∈ xf_t0 ++ xf_t1, _ := fun b hb => (List.mem_append.1 hb).elim (xlo_t0_hi b) (xlo_t1_hi b)
  go_wp2_with fail
  refine (CI.out xA_s0 xn_s0 xc_s0 xA_s1 xn_s1 xc_s1 xA_t0 xn_t0 xc_t0 xA_t1 xn_t1 xc_t1  _ (Mem.rd_on_alloc (Mem.own_rd xo_s0) _) (Mem.rd_on_alloc (Mem.own_rd xo_s1) _) (Mem.rd_on_alloc (Mem.own_rd xo_t0) _) (Mem.rd_on_alloc (Mem.own_rd xo_t1) _)).mono ?_
  rintro e w6 ⟨rfl, b6⟩
  obtain ⟨_, xy_t0, xy_t1, xl_t⟩ := slTraceValid_box 48 w6 b6
  have zb6 := b6.size; rw [World.size_alloc] at zb6
  have b6 := below_call b6
  have sb6 := b6.size
  have k := k.trans (b6.mono k.size)
  have xy_s0 := cell_below b6 (p := ⟨w4.heap.size, 0, none⟩) xl_s xy_s0
  have xy_s1 := cell_below b6 (p := ⟨w4.heap.size, 1, none⟩) xl_s xy_s1
  have xl_s := Nat.lt_of_lt_of_le xl_s sb6
  have xo_s0 := Mem.own_below xo_s0 b6
  have xo_s1 := Mem.own_below xo_s1 b6
  have xo_t0 := Mem.own_below xo_t0 b6
  have xo_t1 := Mem.own_below xo_t1 b6
  obtain ⟨B, x0, x1, x2, x3, lx, ly⟩ := BX.out _ k
  have r0_ := Mem.own_rd xo_s0
  have r1_ := Mem.own_rd xo_s1
  go_wp2
  go_region_held3 (fun w' => w'.cell? ⟨w.heap.size, 0, none⟩ = some (.slice A_s0 n_s0 c_s0) ∧ w'.cell? ⟨w.heap.size, 1, none⟩ = some (.slice A_s1 n_s1 c_s1) ∧ w'.cell? ⟨w4.heap.size, 0, none⟩ = some (.slice xA_s0 xn_s0 xc_s0) ∧ w'.cell? ⟨w4.heap.size, 1, none⟩ = some (.slice xA_s1 xn_s1 xc_s1)) (go_keep)
    (first
      | (go_at_call 20; refine (toSystem_any s A_s0 n_s0 c_s0 A_s1 n_s1 c_s1 w6.drew (Mem.rd_drew (Mem.rd_on h_s0 B)) (Mem.rd_drew (Mem.rd_on h_s1 B)) fits_s.out).mono ?_; rintro e w7 ⟨R1, g1, j1, R2, g2, j2, q5, q6, rfl, u5, u6, _, _, b7⟩
         have z0 := cell_below b7 (p := ⟨w.heap.size, 0, none⟩) lx x0
         have z1 := cell_below b7 (p := ⟨w.heap.size, 1, none⟩) lx x1
         have z2 := cell_below b7 (p := ⟨w4.heap.size, 0, none⟩) xl_s xy_s0
         have z3 := cell_below b7 (p := ⟨w4.heap.size, 1, none⟩) xl_s xy_s1
         have l7 := Nat.lt_of_lt_of_le lx b7.size
         have m7 := Nat.lt_of_lt_of_le xl_s b7.size)
      | (go_at_call 23; refine (eqSystem_same s xA_s0 xn_s0 xc_s0 xA_s1 xn_s1 xc_s1 R1 g1 j1 R2 g2 j2 _ (Mem.rd_on (Mem.rd_drew r0_) b7) (Mem.rd_on (Mem.rd_drew r1_) b7) (Mem.own_rd u5) (Mem.own_rd u6) fits_s.out).mono ?_; rintro e w8 ⟨rfl, b8⟩
         have z0 := cell_below b8 (p := ⟨w.heap.size, 0, none⟩) l7 z0
         have z1 := cell_below b8 (p := ⟨w.heap.size, 1, none⟩) l7 z1
         have z2 := cell_below b8 (p := ⟨w4.heap.size, 0, none⟩) m7 z2
         have z3 := cell_below b8 (p := ⟨w4.heap.size, 1, none⟩) m7 z3))
  have b8 := (show Below w6.heap.size w6 w7 from ⟨b7.os, b7.tape, b7.output, b7.size, b7.block⟩).trans (b8.mono b7.size)
  clear r0_ r1_
  have sb8 := b8.size
  have k := k.trans (b8.mono k.size)
  have xy_s0 := cell_below b8 (p := ⟨w4.heap.size, 0, none⟩) xl_s xy_s0
  have xy_s1 := cell_below b8 (p := ⟨w4.heap.size, 1, none⟩) xl_s xy_s1
  have xy_t0 := cell_below b8 (p := ⟨w5.heap.size, 0, none⟩) xl_t xy_t0
  have xy_t1 := cell_below b8 (p := ⟨w5.heap.size, 1, none⟩) xl_t xy_t1
  have xl_s := Nat.lt_of_lt_of_le xl_s sb8
  have xl_t := Nat.lt_of_lt_of_le xl_t sb8
  have xo_s0 := Mem.own_below xo_s0 b8
  have xo_s1 := Mem.own_below xo_s1 b8
  have xo_t0 := Mem.own_below xo_t0 b8
  have xo_t1 := Mem.own_below xo_t1 b8
  obtain ⟨B, x0, x1, x2, x3, lx, ly⟩ := BX.out _ k
  have r0_ := Mem.own_rd xo_t0
  have r1_ := Mem.own_rd xo_t1
  go_wp2
  go_region_held3 (fun w' => w'.cell? ⟨w.heap.size + 1, 0, none⟩ = some (.slice A_t0 n_t0 c_t0) ∧ w'.cell? ⟨w.heap.size + 1, 1, none⟩ = some (.slice A_t1 n_t1 c_t1) ∧ w'.cell? ⟨w5.heap.size, 0, none⟩ = some (.slice xA_t0 xn_t0 xc_t0) ∧ w'.cell? ⟨w5.heap.size, 1, none⟩ = some (.slice xA_t1 xn_t1 xc_t1)) (go_keep)
    (first
      | (go_at_call 21; refine (toTrace_any t A_t0 n_t0 c_t0 A_t1 n_t1 c_t1 w8.drew (Mem.rd_drew (Mem.rd_on h_t0 B)) (Mem.rd_drew (Mem.rd_on h_t1 B)) fits_t.out).mono ?_; rintro e w9 ⟨R1, g1, j1, R2, g2, j2, q5, q6, rfl, u5, u6, _, _, b9⟩
         have z0 := cell_below b9 (p := ⟨w.heap.size + 1, 0, none⟩) ly x2
         have z1 := cell_below b9 (p := ⟨w.heap.size + 1, 1, none⟩) ly x3
         have z2 := cell_below b9 (p := ⟨w5.heap.size, 0, none⟩) xl_t xy_t0
         have z3 := cell_below b9 (p := ⟨w5.heap.size, 1, none⟩) xl_t xy_t1
         have l7 := Nat.lt_of_lt_of_le ly b9.size
         have m7 := Nat.lt_of_lt_of_le xl_t b9.size)
      | (go_at_call 24; refine (eqTrArg_same t xA_t0 xn_t0 xc_t0 xA_t1 xn_t1 xc_t1 R1 g1 j1 R2 g2 j2 _ (Mem.rd_on (Mem.rd_drew r0_) b9) (Mem.rd_on (Mem.rd_drew r1_) b9) (Mem.own_rd u5) (Mem.own_rd u6) fits_t.out).mono ?_; rintro e w10 ⟨rfl, b10⟩
         have z0 := cell_below b10 (p := ⟨w.heap.size + 1, 0, none⟩) l7 z0
         have z1 := cell_below b10 (p := ⟨w.heap.size + 1, 1, none⟩) l7 z1
         have z2 := cell_below b10 (p := ⟨w5.heap.size, 0, none⟩) m7 z2
         have z3 := cell_below b10 (p := ⟨w5.heap.size, 1, none⟩) m7 z3))
  have b10 := (show Below w8.heap.size w8 w9 from ⟨b9.os, b9.tape, b9.output, b9.size, b9.block⟩).trans (b10.mono b9.size)
  clear r0_ r1_
  have sb10 := b10.size
  have k := k.trans (b10.mono k.size)
  have xy_s0 := cell_below b10 (p := ⟨w4.heap.size, 0, none⟩) xl_s xy_s0
  have xy_s1 := cell_below b10 (p := ⟨w4.heap.size, 1, none⟩) xl_s xy_s1
  have xy_t0 := cell_below b10 (p := ⟨w5.heap.size, 0, none⟩) xl_t xy_t0
  have xy_t1 := cell_below b10 (p := ⟨w5.heap.size, 1, none⟩) xl_t xy_t1
  have xl_s := Nat.lt_of_lt_of_le xl_s sb10
  have xl_t := Nat.lt_of_lt_of_le xl_t sb10
  have xo_s0 := Mem.own_below xo_s0 b10
  have xo_s1 := Mem.own_below xo_s1 b10
  have xo_t0 := Mem.own_below xo_t0 b10
  have xo_t1 := Mem.own_below xo_t1 b10
  obtain ⟨B, x0, x1, x2, x3, lx, ly⟩ := BX.out _ k
  go_wp2
  go_ret
  exact ⟨rfl, B⟩

set_option maxRecDepth 100000 in
theorem slTraceValid_lifted (os : Os) (started : os.Started) (H : Type) (enc : TypeId × Value → H) :
    ReturnsInHanded {} Try.checked os 4 .any (Rows.fnExactTraceValidSpec.pre6 enc Try.prog Try.f4 Rows.fnExactTraceValidRow.domain false) (Rows.fnExactTraceValidSpec.post enc Try.prog Try.f4 false true false false) := by
  refine returnsInHanded_of_change (C := Try.checked) Try.own started (by kernel_rfl) Try.func4
    (ChangeSpec.witness6 (enc := enc) (C := Try.checked) false ⟨#[], #[.agg #[.slice none 0 0, .slice none 0 0], .agg #[.slice none 0 0, .slice none 0 0]], []⟩ 8 (by kernel_rfl) (by kernel_rfl) (by kernel_rfl) (by kernel_rfl)) ?_
  intro W base args ds gs before hval0 hW hcnd _
  have hval : ∀ (j : Nat) t v, Try.f4.params[j]? = some t → args[j]? = some v → Value.okWide Try.prog W .any base t v := hval0
  have hW' := hW
  have hW2 := hW
  obtain ⟨p, q, hA0, hV, rfl, hfz, hnd⟩ := hW2
  have hA : DataW.TrodAll enc Try.prog W 0 (fun _ => true) true Try.f4.params.toList args.toList ds p := hA0
  rw [Try.params4] at hA hval
  obtain ⟨u0, u1, d0, d1, p0, p1, rfl, rfl, rfl, h0, h1⟩ := trodAll_two hA
  obtain ⟨rfl, rfl⟩ := trodVars_none hV
  have k0 := h0
  obtain ⟨A_s0, n_s0, c_s0, A_s1, n_s1, c_s1, s, rfl, ra0, rb0⟩ := open_system (hval 0 36 u0 rfl rfl) h0
  have k1 := h1
  obtain ⟨A_t0, n_t0, c_t0, A_t1, n_t1, c_t1, t, rfl, ra1, rb1⟩ := open_trace (hval 1 39 u1 rfl rfl) h1
  clear hA0 hval0
  simp only [List.append_nil] at hW'
  have hlt : ∀ x ∈ p0 ++ p1, x.block < W.heap.size := fun x hx => hW'.lt x (by simpa using hx)
  refine (slTraceValid_any s t A_s0 n_s0 c_s0 A_s1 n_s1 c_s1 A_t0 n_t0 c_t0 A_t1 n_t1 c_t1 W ra0 rb0 ra1 rb1).mono fun e W' ⟨he, hb⟩ => ?_
  subst he
  exact ⟨_, rfl, post_below (pa := p0 ++ p1) (pv := []) hW' (fun _ _ _ => trodAll_mk1 (shut_bool Try.underlying4 _))
    (fun sp hsp => trodAll_mk2 (WideElems.Trod_stays Try.laidOut (by kernel_rfl) (of_decide_eq_true (by kernel_rfl)) k0 (fun x hx => hb.same (hlt x (by simp [hx]))) (fun x hx => hsp x (by simp [hx]))) (WideElems.Trod_stays Try.laidOut (by kernel_rfl) (of_decide_eq_true (by kernel_rfl)) k1 (fun x hx => hb.same (hlt x (by simp [hx]))) (fun x hx => hsp x (by simp [hx])))) (fun _ _ => rfl) (by simp)
    hb (ok_one (by kernel_rfl) rfl (okWide_bool_mk Try.underlying4 _))⟩

theorem slTraceValid_holds : Rows.FnExactTraceValidSaid :=
  OpenClaim.holds_of_wide 4 Try.f4 rfl rfl rfl rfl rfl rfl rfl ⟨rfl, rfl, rfl, rfl, rfl⟩ rfl rfl rfl rfl rfl (by kernel_rfl) Try.func4 (by kernel_rfl)
    (of_decide_eq_true (by kernel_rfl)) (by unfold Func.isWrapper; first | (rw [if_pos (by decide +kernel)]; kernel_rfl) | (rw [if_neg (by decide +kernel)]; exact ⟨rfl, rfl⟩))
    (fun os started H enc _ => slTraceValid_lifted os started H enc)
end Go.Proofs.Ytmlhnnkdecabpaa
