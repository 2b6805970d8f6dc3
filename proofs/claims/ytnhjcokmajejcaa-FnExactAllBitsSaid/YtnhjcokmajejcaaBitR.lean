/- The word of a state: of the program. -/
import Derived.Test.YtnhjcokmajejcaaBitW
namespace Go.Proofs.Ytnhjcokmajejcaa
open Go.RowKit

/-- The boxes of 'row': a system, a row. -/
def rowW0 (w : World) (a b : Value) : World := -- 33
  (w.alloc (.cells #[a, b] 33)).alloc (.cells #[.int .u64 0, .int .i64 0] 78)
theorem rowW0_size (w : World) (a b : Value) : (rowW0 w a b).heap.size = w.heap.size + 2 := by unfold rowW0; simp -- 33
theorem rowW0_box {w : World} {a b : Value} {W : World} (hW : Below (w.heap.size + 2) (rowW0 w a b) W) : -- 33
    Below w.heap.size w W ∧ W.cell? ⟨w.heap.size, 0, none⟩ = some a ∧ W.cell? ⟨w.heap.size, 1, none⟩ = some b ∧
    Blk W (w.heap.size + 1) 78 [.int .u64 0, .int .i64 0] ∧ w.heap.size + 2 ≤ W.heap.size := by
  have hs := hW.size
  rw [rowW0_size] at hs
  have k0 : Blk (rowW0 w a b) w.heap.size 33 [a, b] := (Blk.new w _ _).alloc _
  have k2 : Blk (rowW0 w a b) (w.heap.size + 1) 78 [.int .u64 0, .int .i64 0] := by
    have := Blk.new (w.alloc (.cells #[a, b] 33)) #[.int .u64 0, .int .i64 0] 78
    rw [World.size_alloc] at this
    exact this
  have j0 := k0.below hW (by omega)
  exact ⟨(((Below.refl w.heap.size w).alloc (Nat.le_refl _) _).alloc (by simp) _).trans (hW.mono (by omega)), j0.cell 0, j0.cell 1, k2.below hW (by omega), by omega⟩

set_option maxRecDepth 100000 in
set_option maxHeartbeats 4000000 in
theorem row_any (s : Sy) (st : List Int) (A1 : Option Addr) (n1 c1 : Nat) (A2 : Option Addr) (n2 c2 : Nat) (A3 : Option Addr) (n3 c3 : Nat) (w : World) (h1 : Mem.rd w w.heap.size [.slice A1 n1 c1] s.vars) (h3 : Mem.rd w w.heap.size [.slice A3 n3 c3] st) (ok : SysOk s) (hin : hasB s.vars st = true) :
    Calls Try.prog 88 #[.agg #[.slice A1 n1 c1, .slice A2 n2 c2], .slice A3 n3 c3] w (GivesV w (rwV (rowTo s.vars st s.vars.length) (widTo s.vars s.vars.length))) := by
  have L1 := rd_len h1
  have L3 := rd_len h3
  have L0 := has_len hin
  have h5 : n1 ≤ 5 := by have := ok.hi; omega
  have h31 : n3 = n1 := by omega
  subst h31
  have RB := Lib.hid (fun k (hk : k ≤ n3) => (⟨wid_le ok (k := k) (by omega), row_lt ok.vars hin (k := k) (by omega)⟩ : widTo s.vars k ≤ 11 ∧ rowTo s.vars st k < 2 ^ widTo s.vars k))
  have VB := Lib.hid (fun j (hj : j < n3) => (⟨ok.vars j (by omega), val_lt ok.vars hin (k := j) (by omega), has_at hin j (by omega)⟩ : varB (el s.vars j) = true ∧ (ix st j - (el s.vars j).low).toNat < 2 ^ wdv (el s.vars j) ∧ ((el s.vars j).low ≤ ix st j ∧ ix st j ≤ (el s.vars j).high)))
  obtain ⟨V, hV⟩ : ∃ V : Value, V = rwV (rowTo s.vars st s.vars.length) (widTo s.vars s.vars.length) := ⟨_, rfl⟩
  have E : Hid (V = rwV (rowTo s.vars st n3) (widTo s.vars n3)) := Lib.hid (by rw [hV, L1])
  rw [← hV]
  clear hV L1 L3 L0 ok hin
  have h3' := (rd_ints.1 h3).2
  have BX := Lib.hid (fun W hW => rowW0_box (w := w) (a := .slice A1 n3 c1) (b := .slice A2 n2 c2) (W := W) hW)
  have M0 : Blk ((rowW0 w (.slice A1 n3 c1) (.slice A2 n2 c2)).alloc (.cells #[.int .u64 0, .int .i64 0] 78)) (w.heap.size + 2) 78 [.int .u64 (rowTo s.vars st 0), .int .i64 (widTo s.vars 0)] := by
    have := Blk.new (rowW0 w (.slice A1 n3 c1) (.slice A2 n2 c2)) #[.int .u64 0, .int .i64 0] 78
    rw [rowW0_size] at this
    exact this
  have W0 : Below (w.heap.size + 2) (rowW0 w (.slice A1 n3 c1) (.slice A2 n2 c2)) ((rowW0 w (.slice A1 n3 c1) (.slice A2 n2 c2)).alloc (.cells #[.int .u64 0, .int .i64 0] 78)) := by
    have := below_alloc (rowW0 w (.slice A1 n3 c1) (.slice A2 n2 c2)) (.cells #[.int .u64 0, .int .i64 0] 78)
    rw [rowW0_size] at this
    exact this
  have M0 := Lib.hid M0
  have W0 := Lib.hid W0
  go_enter Try.func88, Try.ntmps88
  go_wp2
  go_loopg [11] n3 (fun m i wr => ∃ k : Nat, k + m = n3 ∧ i = .int .i64 k ∧ Blk wr (w.heap.size + 2) 78 [.int .u64 (rowTo s.vars st k), .int .i64 (widTo s.vars k)] ∧ Below (w.heap.size + 2) (rowW0 w (.slice A1 n3 c1) (.slice A2 n2 c2)) wr)
  case atStart => exact ⟨0, by omega, rfl, M0.out, W0.out⟩
  case round =>
    clear M0 W0
    obtain ⟨k, hk, rfl, hm, hb⟩ := hrel
    obtain ⟨B, x0, x1, kZ, lx⟩ := BX.out _ hb
    by_cases hlt : k < n3
    · obtain ⟨ad, rfl, hbl, d0, d1, d2⟩ := vr_at (Mem.rd_below h1 B) (k := k) (by omega)
      obtain ⟨ad', rfl, hbl', d3⟩ := (h3'.below B).int hlt
      obtain ⟨vb, vlt, vhas⟩ := VB.out k hlt
      obtain ⟨rb1, rb2⟩ := RB.out k (by omega)
      have vq := varB_iff.1 vb
      have HO := Lib.hid (fun W => width_any (el s.vars k) W vb)
      unfold Vr.v at HO
      have wv : IntKind.i64.wrap (ix st k - (el s.vars k).low) = (((ix st k - (el s.vars k).low).toNat : Nat) : Int) := by
        rw [IntWalk.i64_in _ (by omega)]; omega
      have hp : 2 ^ widTo s.vars k ≤ 2048 := Nat.pow_le_pow_right (n := 2) (by omega) rb1
      have HW := Lib.hid (fun W => with_any (rowTo s.vars st k) (widTo s.vars k) ((ix st k - (el s.vars k).low).toNat) (wdv (el s.vars k)) W (by omega) vlt (by have := wdt_le ((el s.vars k).high - (el s.vars k).low + 1); unfold wdv; omega) (by omega))
      change Hid (∀ W, Calls _ _ _ W (GivesV W (rwV (rowTo s.vars st (k + 1)) (widTo s.vars (k + 1))))) at HW
      obtain ⟨ZR, hZR⟩ : ∃ z, z = rowTo s.vars st (k + 1) := ⟨_, rfl⟩
      obtain ⟨ZM, hZM⟩ : ∃ z, z = widTo s.vars (k + 1) := ⟨_, rfl⟩
      rw [← hZR, ← hZM] at HW
      have HZR := Lib.hid hZR
      have HZM := Lib.hid hZM
      clear hZR hZM
      unfold rwV at HW
      obtain ⟨wq, hwq⟩ : ∃ wq, wq = wr.alloc (.cells #[.int .i64 (el s.vars k).low, .int .i64 (el s.vars k).high, .int .i64 (el s.vars k).first] 122) := ⟨_, rfl⟩
      have bwq : Below wr.heap.size wr wq := by rw [hwq]; exact below_alloc _ _
      have Vv : Blk wq wr.heap.size 122 [.int .i64 (el s.vars k).low, .int .i64 (el s.vars k).high, .int .i64 (el s.vars k).first] := by rw [hwq]; exact Blk.new _ _ _
      have y0 := Vv.cell 0
      have y1 := Vv.cell 1
      have y2 := Vv.cell 2
      have y3 : wq.cell? (ad'.add k) = some (.int .i64 (ix st k)) := cell_below bwq (p := ad'.add k) (by rw [add_block]; exact Nat.lt_of_lt_of_le hbl' B.size) d3
      have Rv := hm.below bwq hm.lt
      have r0 := Rv.cell 0
      have r1 := Rv.cell 1
      have Rv := Lib.hid Rv
      have Vv := Lib.hid Vv
      have HB := Lib.hid (hb.trans (bwq.mono (by have := hm.lt; omega)))
      have HL : Hid (ad'.block < wr.heap.size) := Lib.hid (Nat.lt_of_lt_of_le hbl' B.size)
      have HLX := Lib.hid lx
      generalize (ix st k - (el s.vars k).low).toNat = xx at *
      generalize wdv (el s.vars k) = jj at *
      clear vb vlt vhas rb1 rb2 vq hp hm kZ
      go_wp2
      first | rw [← hwq] | skip
      clear hwq
      have OV := Lib.hid (HO.out wq.drew)
      go_region_law (first
        | (go_simp; go_at_call 118; refine (OV.out).mono ?_; rintro e w4 ⟨rfl, b4⟩
           have b4' : Below wq.heap.size wq w4 := ⟨b4.os, b4.tape, b4.output, b4.size, b4.block⟩
           have V4 := Lib.hid (Vv.out.below b4' Vv.out.lt)
           have R4 := Lib.hid (Rv.out.below b4' Rv.out.lt)
           have p0 := V4.out.cell 0
           have p3 : w4.cell? (ad'.add k) = some (.int .i64 (ix st k)) := cell_below b4' (p := ad'.add k) (by rw [add_block]; have := HL.out; have := Vv.out.lt; omega) y3
           have q0 := R4.out.cell 0
           have q1 := R4.out.cell 1
           have B4 := Lib.hid (HB.out.trans (b4'.mono (by have := Rv.out.lt; omega))))
        | (go_simp; go_at_call 117; refine (HW.out _).mono ?_; rintro e w5 ⟨rfl, b5⟩
           have R5 := Lib.hid (R4.out.below b5 R4.out.lt)
           have c0 := R5.out.cell 0
           have c1 := R5.out.cell 1
           have f0 := R5.out.frozen 0
           have f1 := R5.out.frozen 1
           have B5 := Lib.hid (B4.out.trans (b5.mono (by have := R4.out.lt; omega)))))
      all_goals
        go_wp2
        go_roundg (n3 - (k + 1))
        case measure => omega
        case rel =>
          refine ⟨k + 1, by omega, by go_num, ?_, (B5.out.setCell (by show w.heap.size + 2 ≤ w.heap.size + 1 + 1; omega) _).setCell (by show w.heap.size + 2 ≤ w.heap.size + 1 + 1; omega) _⟩
          rw [← HZR.out, ← HZM.out]
          exact (R5.out.set 0 _).set 1 _
    · obtain rfl : k = n3 := by omega
      have V1 : Hid (V = .agg #[.int .u64 (rowTo s.vars st k), .int .i64 (widTo s.vars k)]) := E
      have q0 := hm.cell 0
      have q1 := hm.cell 1
      have z0 := kZ.cell 0
      have z1 := kZ.cell 1
      have f0 := kZ.frozen 0
      have f1 := kZ.frozen 1
      clear hm kZ
      go_wp2_with fail
      refine bodyPost_ret (v := .agg #[.int .u64 (rowTo s.vars st k), .int .i64 (widTo s.vars k)]) (by simp [results, Try.results88, go_sem, z0, z1]) rfl ⟨congrArg Ending.returned V1.out.symm, ?_⟩
      exact (B.setCell (by show w.heap.size ≤ w.heap.size + 1; omega) _).setCell (by show w.heap.size ≤ w.heap.size + 1; omega) _
end Go.Proofs.Ytnhjcokmajejcaa
