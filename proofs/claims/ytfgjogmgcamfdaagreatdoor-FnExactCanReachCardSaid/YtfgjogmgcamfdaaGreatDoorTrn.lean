/- A table the other way round, of the program. -/
import Derived.Test.YtfgjogmgcamfdaaGreatDoorSer
namespace Go.Proofs.YtfgjogmgcamfdaaGreatDoor
open Go.RowKit

set_option maxRecDepth 100000 in
set_option maxHeartbeats 8000000 in
theorem turned_any (T : Nat → Nat → Bool) (z g : Nat) (w : World) (hg : Blk w g 133 (tabC T)) (hz : z ≤ 400) (hT : ∀ y n, T y n = true → n < z) (hD : DoorAt w) :
    Calls Tryz.prog 65 #[.pointer (some ⟨g, 0, none⟩)] w (GivesTab w (turnT T)) := by
  have SL := Lib.hid (fun P W (B : Below w.heap.size w W) => setList_any P W (hD.on B))
  have BZ := Lib.hid (fun k => backT_end T (k := k) (by omega : z ≤ 448) hT)
  have BS := Lib.hid (fun k i x hi hx => backT_step T (k := k) (i := i) (x := x) (R := rowT T k) hi hx)
  have B0 := Lib.hid (fun k => backT_zero T k (rowT T k))
  have RA := Lib.hid (fun a i hi => rowT_at hT (a := a) (i := i) hi)
  have HG := Lib.hid hg
  have HZ := Lib.hid hz
  have M0 : Hid (Blk (w.alloc (.cells Tryz.zeroCells133 133)) w.heap.size 133 (tabC (fun m n => decide (n < 0) && T n m))) := Lib.hid (by
    have := Blk.new w Tryz.zeroCells133 133
    rw [zero_tab] at this
    have e : (fun m n => decide (n < 0) && T n m) = fun (_ _ : Nat) => false := by funext m n; simp
    rw [e]; exact this)
  have W0 := Lib.hid (below_alloc w (.cells Tryz.zeroCells133 133))
  clear hg hz hT hD
  go_enter Tryz.func65, Tryz.ntmps65
  go_wp2
  go_loopg [4, 5, 7, 10] 400 (fun m i4 i5 i7 i10 wr => ∃ k : Nat, k + m = 400 ∧ i10 = .int .i64 k ∧ Hid (Blk wr w.heap.size 133 (tabC (fun m n => decide (n < k) && T n m))) ∧ Hid (Below w.heap.size w wr))
  case atStart => exact ⟨0, by omega, rfl, M0, W0⟩
  case round =>
    clear M0 W0
    obtain ⟨k, hk, rfl, hm, hb⟩ := hrel
    by_cases hlt : k < 400
    · have k4 : (k : Int) < 400 := by omega
      have hGr := HG.out.below hb.out HG.out.lt
      obtain ⟨c0, c1, c2, c3, c4, c5, c6⟩ := tab_cells hGr hlt
      have d0 := fun o => (tab_cells (hGr.alloc o) hlt).1
      have d1 := fun o => (tab_cells (hGr.alloc o) hlt).2.1
      have d2 := fun o => (tab_cells (hGr.alloc o) hlt).2.2.1
      have d3 := fun o => (tab_cells (hGr.alloc o) hlt).2.2.2.1
      have d4 := fun o => (tab_cells (hGr.alloc o) hlt).2.2.2.2.1
      have d5 := fun o => (tab_cells (hGr.alloc o) hlt).2.2.2.2.2.1
      have d6 := fun o => (tab_cells (hGr.alloc o) hlt).2.2.2.2.2.2
      go_wp2
      go_region
      obtain ⟨W1, hW1⟩ : ∃ W1, W1 = (wr.alloc (.cells #[.int .u64 (wd (T k) 0), .int .u64 (wd (T k) 1), .int .u64 (wd (T k) 2), .int .u64 (wd (T k) 3), .int .u64 (wd (T k) 4), .int .u64 (wd (T k) 5), .int .u64 (wd (T k) 6)] 61)).drew := ⟨_, rfl⟩
      rw [← hW1]
      have b1 : Below wr.heap.size wr W1 := by
        rw [hW1]
        have q := below_alloc wr (.cells #[.int .u64 (wd (T k) 0), .int .u64 (wd (T k) 1), .int .u64 (wd (T k) 2), .int .u64 (wd (T k) 3), .int .u64 (wd (T k) 4), .int .u64 (wd (T k) 5), .int .u64 (wd (T k) 6)] 61)
        exact ⟨q.os, q.tape, q.output, q.size, q.block⟩
      have k1 : Blk W1 wr.heap.size 61 (wsC (T k)) := by
        rw [hW1]
        exact Blk.new wr #[.int .u64 (wd (T k) 0), .int .u64 (wd (T k) 1), .int .u64 (wd (T k) 2), .int .u64 (wd (T k) 3), .int .u64 (wd (T k) 4), .int .u64 (wd (T k) 5), .int .u64 (wd (T k) 6)] 61
      have m1 := Lib.hid (hm.out.below b1 hm.out.lt)
      have B1 := Lib.hid (hb.out.trans (b1.mono hb.out.size))
      obtain ⟨v0, v1, v2, v3, v4, v5, v6⟩ := ws_cells k1
      have SK := SL.out (T k) W1 B1.out
      unfold wsV at SK
      have SK := Lib.hid SK
      have LW : Hid (w.heap.size < W1.heap.size) := Lib.hid m1.out.lt
      clear c0 c1 c2 c3 c4 c5 c6 d0 d1 d2 d3 d4 d5 d6 hW1 hGr hm hb b1 k1
      go_wp2_with fail
      refine SK.out.mono ?_
      rintro e w5 ⟨v5', rfl, o5, b5⟩
      change w5.ownsRow _ _ _ v5' (rowT T k).length (ints (rowT T k)) at o5
      have mx5 : (rowT T k).length ≤ 448 := pick_len _ _
      obtain ⟨A6, c6, rfl, _, _⟩ := own_form o5
      obtain ⟨f6, om6, _, lo6⟩ := mem_ints o5 (by unfold maxLen; omega)
      have RK := RA.out k
      have BK := BS.out k
      have EK := BZ.out k
      have ZK := B0.out k
      obtain ⟨R, hR⟩ : ∃ R, R = rowT T k := ⟨_, rfl⟩
      rw [← hR] at om6 RK BK EK ZK mx5
      obtain ⟨n5, hn5⟩ : ∃ n5, n5 = R.length := ⟨_, rfl⟩
      rw [← hn5] at om6 RK BK EK mx5
      have HRN : Hid ((rowT T k).length = n5) := Lib.hid (by rw [hn5, hR])
      rw [HRN.out]
      have S5 : Hid (Blk w5 w.heap.size 133 (tabC (backT T k R 0))) := Lib.hid (by rw [ZK]; exact m1.out.below b5 m1.out.lt)
      have O5 := Lib.hid om6
      have B5 := Lib.hid (B1.out.trans (b5.mono B1.out.size))
      have HD : Hid (∀ b ∈ f6, b ≠ w.heap.size) := Lib.hid fun b hb => by have := lo6 b hb; have := LW.out; omega
      have RK := Lib.hid RK
      have BK := Lib.hid BK
      have EK := Lib.hid EK
      have HR := Lib.hid hR
      clear om6 o5 b5 ZK hn5 hR lo6 v0 v1 v2 v3 v4 v5 v6 B1 m1
      obtain ⟨wo, rfl⟩ : ∃ wo : World, wo = wr := ⟨_, rfl⟩
      go_wp2
      go_loopg [7, 19] n5 (fun m i7 i ws => ∃ i' : Nat, i' + m = n5 ∧ i = .int .i64 i' ∧ Hid (Blk ws w.heap.size 133 (tabC (backT T k R i'))) ∧ Hid (Mem.own ws f6 [.slice A6 n5 c6] R) ∧ Hid (Below w.heap.size w ws))
      case atStart => exact ⟨0, by omega, rfl, S5, O5, B5⟩
      case round =>
        clear S5 O5 B5
        obtain ⟨i', hi', rfl, hm, ho, hb⟩ := hrel
        have hz4 := HZ.out
        by_cases hlt' : i' < n5
        · obtain ⟨ad', rfl, hbl, e0⟩ := (rd_ints.1 (Mem.own_rd ho.out)).2.int hlt'
          obtain ⟨r1, r2, r3⟩ := RK.out i' hlt'
          obtain ⟨x, hx⟩ : ∃ x : Nat, ix R i' = x := ⟨(ix R i').toNat, by omega⟩
          have x4 : x < 400 := by omega
          have x4i : (x : Int) < 400 := by omega
          have NX := Lib.hid (BK.out i' x hlt' hx)
          rw [hx] at e0
          obtain ⟨t0, t1, t2, t3, t4, t5, t6⟩ := tab_cells hm.out x4
          have WA := with_any (backT T k R i' x) k (by omega) wr
          obtain ⟨TX, hTX⟩ : ∃ TX, TX = backT T k R (i' + 1) := ⟨_, rfl⟩
          rw [← hTX] at NX
          have HTX := Lib.hid hTX
          generalize backT T k R i' = TB at *
          have PX := Lib.hid (fun (n : Nat) => show updT TB x (addP (TB x) k) = TX from NX.out)
          unfold wsV at WA
          have WA := Lib.hid WA
          clear r1 r2 r3 hx hTX
          go_wp2_with fail
          refine (WA.out).mono ?_
          rintro e w7 ⟨rfl, b7⟩
          have M7 := Lib.hid (hm.out.below b7 hm.out.lt)
          have O7 := Lib.hid (Mem.own_below ho.out b7)
          have B7 := Lib.hid (hb.out.trans (b7.mono hb.out.size))
          obtain ⟨s0, s1, s2, s3, s4, s5, s6⟩ := tab_cells M7.out x4
          obtain ⟨g0, g1, g2, g3, g4, g5, g6⟩ := tab_frozen M7.out x
          clear b7 hm ho hb t0 t1 t2 t3 t4 t5 t6
          go_wp2
          go_roundg (n5 - (i' + 1))
          case measure => omega
          case rel =>
            refine ⟨i' + 1, by omega, by go_num, Lib.hid ?_, Lib.hid (Mem.own_only O7.out (((((((only_set _ _ _ _).trans (only_set _ _ _ _)).trans (only_set _ _ _ _)).trans (only_set _ _ _ _)).trans (only_set _ _ _ _)).trans (only_set _ _ _ _)).trans (only_set _ _ _ _)) fun b hb' hc => by simp at hc; exact HD.out b hb' hc), Lib.hid (tab_below B7.out (Nat.le_refl _))⟩
            rw [← HTX.out, ← NX.out]
            exact tab_set M7.out x4
        · have ei : i' = n5 := by omega
          have nin : ¬ (i' : Int) < (n5 : Int) := by omega
          have S8 : Hid (Blk wr w.heap.size 133 (tabC (fun m n => decide (n < k + 1) && T n m))) := Lib.hid (by rw [← EK.out, ← ei]; exact hm.out)
          clear hm ho ei hi'
          go_wp2
          go_roundg (400 - (k + 1))
          case measure => omega
          case rel => exact ⟨k + 1, by omega, by go_num, S8, hb⟩
    · have ek : k = 400 := by omega
      have nk : ¬ (k : Int) < 400 := by omega
      have O4 : Hid (Blk wr w.heap.size 133 (tabC (turnT T))) := Lib.hid (by rw [ek] at hm; exact hm.out)
      clear hm ek
      go_wp2
      go_ret
      exact ⟨_, rfl, O4.out, Nat.le_refl _, hb.out⟩
end Go.Proofs.YtfgjogmgcamfdaaGreatDoor
