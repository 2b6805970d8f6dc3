/- The state that bits are: of the program. -/
import Derived.Test.YtopedgopbofhoaaBitU
import Derived.Test.YtopedgopbofhoaaBitW
import Derived.Test.YtopedgopbofhoaaPt
import Derived.Deep.CutRange
namespace Go.Proofs.Ytopedgopbofhoaa
open Go.RowKit

/-- The boxes of 'unpacked': a system, a row, a zero. -/
def upW0 (w : World) (a b c d : Value) : World :=
  ((w.alloc (.cells #[a, b] 32)).alloc (.cells #[c, d] 53)).alloc (.cells #[.int .i64 0, .int .i64 0, .int .i64 0, .int .i64 0, .int .i64 0, .int .i64 0] 59)
theorem upW0_size (w : World) (a b c d : Value) : (upW0 w a b c d).heap.size = w.heap.size + 3 := by unfold upW0; simp
theorem upW0_sys {w : World} {a b c d : Value} : Blk (upW0 w a b c d) w.heap.size 32 [a, b] := ((Blk.new w _ _).alloc _).alloc _
theorem upW0_row {w : World} {a b c d : Value} : Blk (upW0 w a b c d) (w.heap.size + 1) 53 [c, d] := by
  have := (Blk.new (w.alloc (.cells #[a, b] 32)) #[c, d] 53).alloc (.cells #[.int .i64 0, .int .i64 0, .int .i64 0, .int .i64 0, .int .i64 0, .int .i64 0] 59)
  rw [World.size_alloc] at this
  exact this
theorem upW0_pt {w : World} {a b c d : Value} : Blk (upW0 w a b c d) (w.heap.size + 2) 59 [.int .i64 0, .int .i64 0, .int .i64 0, .int .i64 0, .int .i64 0, .int .i64 0] := by
  have := Blk.new ((w.alloc (.cells #[a, b] 32)).alloc (.cells #[c, d] 53)) #[.int .i64 0, .int .i64 0, .int .i64 0, .int .i64 0, .int .i64 0, .int .i64 0] 59
  rw [World.size_alloc, World.size_alloc] at this
  exact this
theorem upW0_below {w : World} {a b c d : Value} : Below w.heap.size w (upW0 w a b c d) :=
  (((Below.refl w.heap.size w).alloc (Nat.le_refl _) _).alloc (by simp) _).alloc (by simp; omega) _

theorem far2 {w : World} {g o : Nat} {t : TypeId} {cs : List Value} {u v : Value} (k : o ≠ g) (h : Blk w o t cs) : Blk ((w.setCell ⟨g, 0, none⟩ u).setCell ⟨g, 1, none⟩ v) o t cs :=
  (setCell_heap _ _ _ k).trans ((setCell_heap _ _ _ k).trans h)
theorem far1 {w : World} {g o i : Nat} {t : TypeId} {cs : List Value} {u : Value} (k : o ≠ g) (h : Blk w o t cs) : Blk (w.setCell ⟨g, i, none⟩ u) o t cs :=
  (setCell_heap _ _ _ k).trans h

set_option maxRecDepth 100000 in
set_option maxHeartbeats 4000000 in
theorem unpacked_any (s : Sy) (L : List Int) (A1 : Option Addr) (n1 c1 : Nat) (A2 : Option Addr) (n2 c2 : Nat) (w : World) (h1 : Mem.rd w w.heap.size [.slice A1 n1 c1] s.vars) (ok : SysOk s) (hL : allTo (bitAt L) (widTo s.vars s.vars.length) = true) :
    Calls Try.prog 30 #[.agg #[.slice A1 n1 c1, .slice A2 n2 c2], rwV (numN L (widTo s.vars s.vars.length)) (widTo s.vars s.vars.length)] w (GivesV w (ptV (unpL s.vars L))) := by
  have L1 := rd_len h1
  have h5 : n1 ≤ 5 := by have := ok.hi; omega
  have RB := Lib.hid (fun j (hj : j ≤ n1) => (⟨wid_le ok (k := j) (by omega), numN_lt (l := L) (k := widTo s.vars j) (allTo_true.2 fun i hi => allTo_true.1 hL i (Nat.lt_of_lt_of_le hi (wid_mono s.vars (by omega))))⟩ : widTo s.vars j ≤ 11 ∧ numN L (widTo s.vars j) < 2 ^ widTo s.vars j))
  have CB := Lib.hid (fun j (hj : j < n1) => (⟨ok.vars j (by omega), numN_cut (l := L) (k := widTo s.vars j) (j := wdv (el s.vars j)) hL (by have := wid_mono s.vars (show j + 1 ≤ s.vars.length by omega); exact this), numN_drop_lt (l := L) (k := widTo s.vars j) (j := wdv (el s.vars j)) hL (by have := wid_mono s.vars (show j + 1 ≤ s.vars.length by omega); exact this)⟩ :
    varB (el s.vars j) = true ∧ (numN L (widTo s.vars j + wdv (el s.vars j)) / 2 ^ wdv (el s.vars j) = numN L (widTo s.vars j) ∧ numN L (widTo s.vars j + wdv (el s.vars j)) % 2 ^ wdv (el s.vars j) = numN (L.drop (widTo s.vars j)) (wdv (el s.vars j))) ∧ numN (L.drop (widTo s.vars j)) (wdv (el s.vars j)) < 2 ^ wdv (el s.vars j)))
  have LL0 := Lib.hid (fun k => (unpTo_len s.vars L k).trans L1)
  have NX := Lib.hid (fun k j (hj : j + k + 1 = n1) => unpTo_succ (l := s.vars) L (m := k) (j := j) (by omega))
  obtain ⟨V, hV⟩ : ∃ V : Value, V = ptV (unpL s.vars L) := ⟨_, rfl⟩
  have E : Hid (V = ptV (unpTo s.vars L n1)) := Lib.hid (by rw [hV, ← unpTo_all, L1])
  rw [← hV, L1]
  have U0 : Hid (ptC (unpTo s.vars L 0) = [.int .i64 0, .int .i64 0, .int .i64 0, .int .i64 0, .int .i64 0, .int .i64 n1]) := Lib.hid (by
    rw [unpTo_zero, L1]
    unfold ptC
    simp only [List.length_replicate]
    have : ∀ i, ix (List.replicate n1 0) i = 0 := fun i => by unfold ix; rw [List.getElem?_replicate]; split <;> rfl
    rw [this, this, this, this, this])
  clear hV L1 hL
  obtain ⟨NW, hNW⟩ : ∃ x : Nat, x = numN L (widTo s.vars n1) := ⟨_, rfl⟩
  obtain ⟨MW, hMW⟩ : ∃ x : Nat, x = widTo s.vars n1 := ⟨_, rfl⟩
  rw [← hNW, ← hMW]
  have HNW := Lib.hid hNW
  have HMW := Lib.hid hMW
  clear hNW hMW
  have BX := Lib.hid (fun (W : World) (hk : Blk W w.heap.size 32 [.slice A1 n1 c1, .slice A2 n2 c2]) => (⟨hk.cell 0, hk.cell 1⟩ : W.cell? ⟨w.heap.size, 0, none⟩ = some (.slice A1 n1 c1) ∧ W.cell? ⟨w.heap.size, 1, none⟩ = some (.slice A2 n2 c2)))
  obtain ⟨W1, hW1⟩ : ∃ W1, W1 = (upW0 w (.slice A1 n1 c1) (.slice A2 n2 c2) (.int .u64 NW) (.int .i64 MW)).alloc (.cells #[.int .i64 0, .int .i64 0, .int .i64 0, .int .i64 0, .int .i64 0, .int .i64 n1] 59) := ⟨_, rfl⟩
  have S1 : Hid (Blk W1 w.heap.size 32 [.slice A1 n1 c1, .slice A2 n2 c2]) := Lib.hid (by rw [hW1]; exact upW0_sys.alloc _)
  have R1 : Hid (Blk W1 (w.heap.size + 1) 53 [.int .u64 (numN L (widTo s.vars n1)), .int .i64 (widTo s.vars n1)]) := Lib.hid (by rw [hW1, ← HNW.out, ← HMW.out]; exact upW0_row.alloc _)
  have Z1 : Hid (Blk W1 (w.heap.size + 2) 59 [.int .i64 0, .int .i64 0, .int .i64 0, .int .i64 0, .int .i64 0, .int .i64 0]) := Lib.hid (by rw [hW1]; exact upW0_pt.alloc _)
  have P1 : Hid (Blk W1 (w.heap.size + 3) 59 (ptC (unpTo s.vars L 0))) := Lib.hid (by
    rw [hW1, U0.out]
    have := Blk.new (upW0 w (.slice A1 n1 c1) (.slice A2 n2 c2) (.int .u64 NW) (.int .i64 MW)) #[.int .i64 0, .int .i64 0, .int .i64 0, .int .i64 0, .int .i64 0, .int .i64 n1] 59
    rw [upW0_size] at this
    exact this)
  have B1 : Hid (Below w.heap.size w W1) := Lib.hid (by rw [hW1]; exact upW0_below.alloc (by rw [upW0_size]; omega) _)
  have HW1 := Lib.hid hW1
  unfold rwV
  clear hW1 ok
  go_enter Try.func30, Try.ntmps30
  go_wp2
  first | rw [← HW1.out] | (have hh := HW1.out; unfold upW0 at hh; rw [← hh]; clear hh) | skip
  go_loopg [6] n1 (fun m i wr => ∃ k j : Nat, k + m = n1 ∧ k + j = n1 ∧ i = .int .i64 ((j : Int) - 1) ∧ Hid (Blk wr w.heap.size 32 [.slice A1 n1 c1, .slice A2 n2 c2]) ∧ Hid (Blk wr (w.heap.size + 1) 53 [.int .u64 (numN L (widTo s.vars j)), .int .i64 (widTo s.vars j)]) ∧
    Hid (Blk wr (w.heap.size + 2) 59 [.int .i64 0, .int .i64 0, .int .i64 0, .int .i64 0, .int .i64 0, .int .i64 0]) ∧ Hid (Blk wr (w.heap.size + 3) 59 (ptC (unpTo s.vars L k))) ∧ Hid (Below w.heap.size w wr))
  case atStart => exact ⟨0, n1, by omega, by omega, by go_num, S1, R1, Z1, P1, B1⟩
  case round =>
    clear S1 R1 Z1 P1 B1 U0
    obtain ⟨k, j, hk, hkj, rfl, hS, hR, hZ, hP, hB⟩ := hrel
    obtain ⟨x0, x1⟩ := BX.out _ hS.out
    by_cases hlt : 0 < j
    · obtain ⟨j, rfl⟩ : ∃ i, j = i + 1 := ⟨j - 1, by omega⟩
      rw [show ((j + 1 : Nat) : Int) - 1 = (j : Int) by omega]
      obtain ⟨ad, rfl, hbl, d0, d1, d2⟩ := vr_at (Mem.rd_below h1 hB.out) (k := j) (by omega)
      obtain ⟨vb, ⟨vd, vm⟩, vl⟩ := CB.out j (by omega)
      obtain ⟨rb1, rb2⟩ := RB.out (j + 1) (by omega)
      have vq := varB_iff.1 vb
      have hj5 : wdv (el s.vars j) ≤ 5 := wdt_le _
      have hp11 : 2 ^ widTo s.vars (j + 1) ≤ 2 ^ 11 := Nat.pow_le_pow_right (by omega) rb1
      have hp5 : 2 ^ wdv (el s.vars j) ≤ 2 ^ 5 := Nat.pow_le_pow_right (by omega) hj5
      have hw1 : widTo s.vars (j + 1) = widTo s.vars j + wdv (el s.vars j) := rfl
      have HO := Lib.hid (fun W => width_any (el s.vars j) W vb)
      unfold Vr.v at HO
      have CC : Hid (∀ W, Calls Try.prog 50 #[.agg #[.int .u64 (numN L (widTo s.vars (j + 1))), .int .i64 (widTo s.vars (j + 1))], .int .i64 (wdv (el s.vars j))] W (GivesV W (.tuple #[.agg #[.int .u64 (numN L (widTo s.vars j)), .int .i64 (widTo s.vars j)], .int .i64 (numN (L.drop (widTo s.vars j)) (wdv (el s.vars j)))]))) := Lib.hid (fun W => by
        have := cut_any (numN L (widTo s.vars (j + 1))) (widTo s.vars (j + 1)) (wdv (el s.vars j)) W (by omega) (by omega) (by omega) (by omega)
        rw [hw1, vd, vm, Nat.add_sub_cancel] at this
        rw [hw1]
        exact this)
      have wv : IntKind.i64.wrap ((el s.vars j).low + (numN (L.drop (widTo s.vars j)) (wdv (el s.vars j)) : Nat)) = unpAt s.vars L j := IntWalk.i64_in _ (by omega)
      have HLM := LL0.out k
      have HNX := Lib.hid (NX.out k j (by omega))
      have HLM := Lib.hid HLM
      have HIX := fun W => run_pt_index (w.heap.size + 1 + 1 + 1) j (by omega) W
      generalize numN (L.drop (widTo s.vars j)) (wdv (el s.vars j)) = xx at *
      generalize wdv (el s.vars j) = jj at *
      generalize widTo s.vars (j + 1) = MJ at *
      generalize numN L MJ = NJ at *
      obtain ⟨MI, hMI⟩ : ∃ z, z = widTo s.vars j := ⟨_, rfl⟩
      rw [← hMI] at CC
      obtain ⟨NI, hNI⟩ : ∃ z, z = numN L MI := ⟨_, rfl⟩
      rw [← hNI] at CC
      have HMI := Lib.hid hMI
      have HNI := Lib.hid hNI
      generalize unpAt s.vars L j = yy at *
      clear vb vd vm vl rb1 rb2 vq hj5 hp11 hp5 hw1 hMI hNI
      obtain ⟨wq, hwq⟩ : ∃ wq, wq = wr.alloc (.cells #[.int .i64 (el s.vars j).low, .int .i64 (el s.vars j).high, .int .i64 (el s.vars j).first] 47) := ⟨_, rfl⟩
      have bwq : Below wr.heap.size wr wq := by rw [hwq]; exact below_alloc _ _
      have Vv : Hid (Blk wq wr.heap.size 47 [.int .i64 (el s.vars j).low, .int .i64 (el s.vars j).high, .int .i64 (el s.vars j).first]) := Lib.hid (by rw [hwq]; exact Blk.new _ _ _)
      have y0 := Vv.out.cell 0
      have y1 := Vv.out.cell 1
      have y2 := Vv.out.cell 2
      have Sv := Lib.hid (hS.out.below bwq hS.out.lt)
      have Rv := Lib.hid (hR.out.below bwq hR.out.lt)
      have Zv := Lib.hid (hZ.out.below bwq hZ.out.lt)
      have Pv := Lib.hid (hP.out.below bwq hP.out.lt)
      have Bv := Lib.hid (hB.out.trans (bwq.mono hB.out.size))
      have r0 := Rv.out.cell 0
      have r1 := Rv.out.cell 1
      have ya0 := fun o => (Vv.out.alloc o).cell 0
      have ya1 := fun o => (Vv.out.alloc o).cell 1
      have ya2 := fun o => (Vv.out.alloc o).cell 2
      have ra0 := fun o => (Rv.out.alloc o).cell 0
      have ra1 := fun o => (Rv.out.alloc o).cell 1
      have lwr : Hid (w.heap.size + 3 < wr.heap.size) := Lib.hid hP.out.lt
      clear hS hR hZ hP hB bwq hbl
      go_upto_region 6 with fail
      first | rw [← hwq] | skip
      clear hwq d0 d1 d2
      go_cut [8, 9] from 17 to 40 (fun a8 a9 wx => ∃ g8 : Nat, a8 = .pointer (some ⟨g8, 0, none⟩) ∧ a9 = .int .i64 xx ∧ Hid (wr.heap.size < g8) ∧ Hid (Blk wx g8 53 [.int .u64 NI, .int .i64 MI]) ∧ Hid (Blk wx wr.heap.size 47 [.int .i64 (el s.vars j).low, .int .i64 (el s.vars j).high, .int .i64 (el s.vars j).first]) ∧
        Hid (Blk wx w.heap.size 32 [.slice (some ad) n1 c1, .slice A2 n2 c2]) ∧ Hid (Blk wx (w.heap.size + 1) 53 [.int .u64 NJ, .int .i64 MJ]) ∧
        Hid (Blk wx (w.heap.size + 2) 59 [.int .i64 0, .int .i64 0, .int .i64 0, .int .i64 0, .int .i64 0, .int .i64 0]) ∧ Hid (Blk wx (w.heap.size + 3) 59 (ptC (unpTo s.vars L k))) ∧ Hid (Below w.heap.size w wx))
      case first =>
        go_region_law (first
          | (go_simp; go_at_call 49; refine (HO.out _).mono ?_; rintro e w4 ⟨rfl, b4⟩
             first
               | have b4' : Below wq.heap.size wq w4 := ⟨b4.os, b4.tape, b4.output, b4.size, b4.block⟩
               | (have b4a : Below (wq.alloc (.cells #[.int .u64 0, .int .i64 0] 53)).heap.size (wq.alloc (.cells #[.int .u64 0, .int .i64 0] 53)) w4 := ⟨b4.os, b4.tape, b4.output, b4.size, b4.block⟩
                  have b4' : Below wq.heap.size wq w4 := below_call b4a
                  have K4 := Lib.hid ((Blk.new wq #[.int .u64 0, .int .i64 0] 53).below b4a (by rw [World.size_alloc]; omega)))
             have V4 := Lib.hid (Vv.out.below b4' Vv.out.lt)
             have S4 := Lib.hid (Sv.out.below b4' Sv.out.lt)
             have R4 := Lib.hid (Rv.out.below b4' Rv.out.lt)
             have Z4 := Lib.hid (Zv.out.below b4' Zv.out.lt)
             have P4 := Lib.hid (Pv.out.below b4' Pv.out.lt)
             have B4 := Lib.hid (Bv.out.trans (b4'.mono Bv.out.size))
             have p0 := V4.out.cell 0
             have p1 := V4.out.cell 1
             have p2 := V4.out.cell 2
             have q0 := R4.out.cell 0
             have q1 := R4.out.cell 1
             have qa0 := fun o => (R4.out.alloc o).cell 0
             have qa1 := fun o => (R4.out.alloc o).cell 1)
          | (go_simp; go_at_call 50; refine (CC.out _).mono ?_; rintro e w5 ⟨rfl, b5⟩
             first
               | have b5' : Below w4.heap.size w4 w5 := ⟨b5.os, b5.tape, b5.output, b5.size, b5.block⟩
               | (have b5a : Below (w4.alloc (.cells #[.int .u64 0, .int .i64 0] 53)).heap.size (w4.alloc (.cells #[.int .u64 0, .int .i64 0] 53)) w5 := ⟨b5.os, b5.tape, b5.output, b5.size, b5.block⟩
                  have b5' : Below w4.heap.size w4 w5 := below_call b5a
                  have K5 := Lib.hid ((Blk.new w4 #[.int .u64 0, .int .i64 0] 53).below b5a (by rw [World.size_alloc]; omega)))
             first
               | (have K6 := Lib.hid (K4.out.below b5' K4.out.lt)
                  obtain ⟨g0, g1, e0, e1⟩ := two_cells K6.out)
               | (have K6 := Lib.hid K5.out
                  obtain ⟨g0, g1, e0, e1⟩ := two_cells K6.out)
               | skip
             have V5 := Lib.hid (V4.out.below b5' V4.out.lt)
             have S5 := Lib.hid (S4.out.below b5' S4.out.lt)
             have R5 := Lib.hid (R4.out.below b5' R4.out.lt)
             have Z5 := Lib.hid (Z4.out.below b5' Z4.out.lt)
             have P5 := Lib.hid (P4.out.below b5' P4.out.lt)
             have B5 := Lib.hid (B4.out.trans (b5'.mono B4.out.size))))
        all_goals
          go_wp2_with fail
          go_meet
          have l1 := lwr.out
          have l2 := Vv.out.lt
          have l4 := b4'.size
          have l5 := b5'.size
          first
            | exact ⟨w5.heap.size, rfl, rfl, Lib.hid (by omega), Lib.hid (Blk.new w5 _ _), Lib.hid (V5.out.alloc _), Lib.hid (S5.out.alloc _), Lib.hid (R5.out.alloc _), Lib.hid (Z5.out.alloc _), Lib.hid (P5.out.alloc _), Lib.hid (B5.out.alloc B5.out.size _)⟩
            | exact ⟨w4.heap.size, rfl, rfl, Lib.hid (by omega), Lib.hid ((K6.out.set 0 _).set 1 _), Lib.hid (far2 (by omega) V5.out), Lib.hid (far2 (by omega) S5.out), Lib.hid (far2 (by omega) R5.out), Lib.hid (far2 (by omega) Z5.out), Lib.hid (far2 (by omega) P5.out), Lib.hid ((B5.out.setCell (by show w.heap.size ≤ w4.heap.size; omega) _).setCell (by show w.heap.size ≤ w4.heap.size; omega) _)⟩
            | exact ⟨wq.heap.size, rfl, rfl, Lib.hid (by omega), Lib.hid ((K6.out.set 0 _).set 1 _), Lib.hid (far2 (by omega) V5.out), Lib.hid (far2 (by omega) S5.out), Lib.hid (far2 (by omega) R5.out), Lib.hid (far2 (by omega) Z5.out), Lib.hid (far2 (by omega) P5.out), Lib.hid ((B5.out.setCell (by show w.heap.size ≤ wq.heap.size; omega) _).setCell (by show w.heap.size ≤ wq.heap.size; omega) _)⟩
      case rest =>
        obtain ⟨g8, rfl, rfl, hg8, K, V8, S8, R8, Z8, P8, B8⟩ := hcut
        have l1 := lwr.out
        have l8 := hg8.out
        have y0 := V8.out.cell 0
        have f0 : wc.frozen? ⟨w.heap.size + 1 + 1 + 1, j, none⟩ = false := P8.out.frozen j
        have c0 : wc.cell? ⟨w.heap.size + 1 + 1 + 1, j, none⟩ = some (.int .i64 (ix (unpTo s.vars L k) j)) := by
          have := P8.out.cell j
          rw [ptC_at (by have := HLM.out; omega) (by have := HLM.out; omega)] at this
          exact this
        have K9 : Hid (Blk (wc.setCell ⟨w.heap.size + 1 + 1 + 1, j, none⟩ (.int .i64 yy)) g8 53 [.int .u64 NI, .int .i64 MI]) := Lib.hid (far1 (by omega) K.out)
        have R9 : Hid (Blk (wc.setCell ⟨w.heap.size + 1 + 1 + 1, j, none⟩ (.int .i64 yy)) (w.heap.size + 1) 53 [.int .u64 NJ, .int .i64 MJ]) := Lib.hid (far1 (by omega) R8.out)
        have S9 : Hid (Blk (wc.setCell ⟨w.heap.size + 1 + 1 + 1, j, none⟩ (.int .i64 yy)) w.heap.size 32 [.slice (some ad) n1 c1, .slice A2 n2 c2]) := Lib.hid (far1 (by omega) S8.out)
        have Z9 : Hid (Blk (wc.setCell ⟨w.heap.size + 1 + 1 + 1, j, none⟩ (.int .i64 yy)) (w.heap.size + 2) 59 [.int .i64 0, .int .i64 0, .int .i64 0, .int .i64 0, .int .i64 0, .int .i64 0]) := Lib.hid (far1 (by omega) Z8.out)
        have P9 : Hid (Blk (wc.setCell ⟨w.heap.size + 1 + 1 + 1, j, none⟩ (.int .i64 yy)) (w.heap.size + 3) 59 (ptC (unpTo s.vars L (k + 1)))) := Lib.hid (by
          rw [← HNX.out, ← ptC_set (by have := HLM.out; omega) (by have := HLM.out; omega)]
          exact P8.out.set j _)
        have B9 : Hid (Below w.heap.size w (wc.setCell ⟨w.heap.size + 1 + 1 + 1, j, none⟩ (.int .i64 yy))) := Lib.hid (B8.out.setCell (by show w.heap.size ≤ w.heap.size + 1 + 1 + 1; omega) _)
        obtain ⟨k0, k1, _, _⟩ := two_cells K9.out
        obtain ⟨r0', r1', e0, e1⟩ := two_cells R9.out
        have y0 : wc.cell? ⟨wr.heap.size, 0, none⟩ = some (.int .i64 (el s.vars j).low) := V8.out.cell 0
        go_wp2
        go_roundg j
        case measure => omega
        case rel =>
          refine ⟨k + 1, j, by omega, by omega, by go_num, Lib.hid (far2 (by omega) S9.out), Lib.hid ?_, Lib.hid (far2 (by omega) Z9.out), Lib.hid (far2 (by omega) P9.out), Lib.hid ((B9.out.setCell (by show w.heap.size ≤ w.heap.size + 1; omega) _).setCell (by show w.heap.size ≤ w.heap.size + 1; omega) _)⟩
          rw [← HMI.out, ← HNI.out]
          exact (R9.out.set 0 _).set 1 _
    · obtain rfl : j = 0 := by omega
      obtain rfl : k = n1 := by omega
      obtain ⟨p0, p1, p2, p3, p4, p5⟩ := pt_cells hP.out
      obtain ⟨q0, q1, q2, q3, q4, q5⟩ := six_cells hZ.out
      obtain ⟨f0, f1, f2, f3, f4, f5⟩ := six_frozen hZ.out
      go_wp2_with fail
      refine bodyPost_ret (v := ptV (unpTo s.vars L k)) (by simp [results, Try.results30, go_sem, q0, q1, q2, q3, q4, q5, ptV]) rfl ⟨congrArg Ending.returned E.out.symm, ?_⟩
      exact (((((hB.out.setCell (by show w.heap.size ≤ w.heap.size + 2; omega) _).setCell (by show w.heap.size ≤ w.heap.size + 2; omega) _).setCell (by show w.heap.size ≤ w.heap.size + 2; omega) _).setCell (by show w.heap.size ≤ w.heap.size + 2; omega) _).setCell (by show w.heap.size ≤ w.heap.size + 2; omega) _).setCell (by show w.heap.size ≤ w.heap.size + 2; omega) _
end Go.Proofs.Ytopedgopbofhoaa
