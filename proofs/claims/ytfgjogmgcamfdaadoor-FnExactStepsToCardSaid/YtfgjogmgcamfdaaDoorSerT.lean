/- How many steps it is to each state, of the program. -/
import Derived.Test.YtfgjogmgcamfdaaDoorSer
namespace Go.Proofs.YtfgjogmgcamfdaaDoor
open Go.RowKit

theorem arr400 : Tryd.prog.underlying 81 = some (.array 400 3) := by kernel_rfl
/-- The first m values of an array of 400. -/
theorem run_st_slice (a : Addr) (m : Nat) (h : m ≤ 400) (W : World) : (Instr.sliceAt 81 (.pointer (some a)) none (some (.int .i64 m)) none).run Tryd.prog W = .ok (.slice (some a) m 400) W := by
  have e : Tryd.prog.arrayLen 81 = 400 := by kernel_rfl
  have e2 : Tryd.prog.elem 81 = 3 := by kernel_rfl
  rw [run_sliceAt_array_h W 81 a (by rw [e, e2]; exact arr400) .i64 m (by omega) (by rw [e]; omega), e, e2]
  simp [slicedAt, Addr.add]
theorem Blk.row {w : World} {h : Nat} {D H : Nat → Int} {q : Value} (hm : Blk w h 83 (srcC D H q)) {m : Nat} (h4 : m ≤ 400) : Rd w w.heap.size 1 (some ⟨h, 0, none⟩) m (ints (lsR D m)) := by
  refine ⟨by rw [len_ints, lsR_len]; omega, fun _ => ⟨_, rfl, hm.lt, fun j u hu => ?_⟩⟩
  have hj : j < m := by
    have := (List.getElem?_eq_some_iff.1 hu).1
    rw [len_ints, lsR_len] at this
    exact this
  unfold ints at hu
  rw [List.getElem?_map, lsR_at D hj] at hu
  have ha : (⟨h, 0, none⟩ : Addr).add j = ⟨h, j, none⟩ := by unfold Addr.add; split <;> simp_all
  rw [ha, hm.cell, srcC_d _ _ _ (by omega)]
  exact hu
theorem steps_eq {s : Sy} {z : Nat} {x : Sst} (hz : sysB s = true) (hzz : (z : Int) = sizeB s) (iv : Inv (stepT s z) (oneP (firstN s)) z x x.Q.length) : lsR x.D z = stepsB s := by
  unfold stepsB
  rw [hz, if_pos rfl, show (sizeB s).toNat = z by omega]
  exact lsR_congr fun n hn => by rw [inv_end iv (Nat.le_refl _) n hn, dst_tab s _ z hn]; rfl

set_option maxRecDepth 100000 in
set_option maxHeartbeats 4000000 in
theorem stepsTo_impl (s : Sy) (A1 : Option Addr) (n1 c1 : Nat) (A2 : Option Addr) (n2 c2 : Nat) (w : World) (h1 : Mem.rd w w.heap.size [.slice A1 n1 c1] s.vars) (h2 : Mem.rd w w.heap.size [.slice A2 n2 c2] s.rules) (hT : DoorAt w) :
    Calls Tryd.prog 20 #[.agg #[.slice A1 n1 c1, .slice A2 n2 c2]] w (GivesL w (stepsB s)) := by
  have BX := Lib.hid (sy_box (w := w) (v1 := .slice A1 n1 c1) (v2 := .slice A2 n2 c2))
  have SV := Lib.hid (fun o => sysValid_impl s A1 n1 c1 A2 n2 c2 (w.alloc o) (Mem.rd_on_alloc h1 o) (Mem.rd_on_alloc h2 o))
  have HL := Lib.hid (stepsB_len s)
  cases hz : sysB s
  · have E : Hid (stepsB s = []) := Lib.hid (by unfold stepsB; rw [hz]; rfl)
    have HZ := Lib.hid hz; clear hz
    go_enter Tryd.func20, Tryd.ntmps20
    go_wp2_with fail
    refine (SV.out _).mono ?_
    rintro e w2 ⟨rfl, b2⟩
    rw [HZ.out]
    go_wp2
    go_ret
    rw [E.out]
    exact ⟨none, 0, 0, [], rfl, own_none _, List.nodup_nil, by simp, below_call b2⟩
  · have ok := sysOk_of hz
    have hbd := sizeB_bd hz
    obtain ⟨z, hzz⟩ : ∃ z : Nat, (z : Int) = sizeB s := ⟨(sizeB s).toNat, by omega⟩
    have hz4 : z ≤ 400 := by omega
    have SC := Lib.hid (fun W (B : Below w.heap.size w W) => search_any s z A1 n1 c1 A2 n2 c2 W (Mem.rd_on h1 B) (Mem.rd_on h2 B) hz hzz (hT.on B))
    have ZC := Lib.hid (fun W (B : Below w.heap.size w W) => size_any s A1 n1 c1 A2 n2 c2 W (Mem.rd_on h1 B) (by have := rd_len h1; have := ok.hi; omega) (allTo_true.2 fun k hk => ok.vars k (by have := rd_len h1; omega)))
    rw [← hzz] at ZC
    have QP := Lib.hid (fun x (iv : Inv (stepT s z) (oneP (firstN s)) z x x.Q.length) => steps_eq hz hzz iv)
    have HZ := Lib.hid hz; have H4 := Lib.hid hz4; clear hz hzz hbd hT ok
    go_enter Tryd.func20, Tryd.ntmps20
    go_wp2_with fail
    refine (SV.out _).mono ?_
    rintro e w2 ⟨rfl, b2⟩
    rw [HZ.out]
    obtain ⟨B2, x0, x1⟩ := BX.out _ b2
    have SK := Lib.hid (SC.out w2 B2)
    have HB2 := Lib.hid b2
    clear B2 b2
    go_wp2_with fail
    refine (SK.out).mono ?_
    rintro e w3 ⟨x, iv, h3, A3, c3, f3, rfl, k3, r3, l3, b3⟩
    have E := Lib.hid (QP.out x iv)
    have HB3 := Lib.hid (HB2.out.trans (b3.mono HB2.out.size))
    have K3 := Lib.hid k3
    obtain ⟨B3, y0, y1⟩ := BX.out _ HB3.out
    have ZK := Lib.hid (ZC.out w3.drew ⟨B3.os, B3.tape, B3.output, B3.size, B3.block⟩)
    have HSL := fun W => run_st_slice ⟨h3, 0, none⟩ z hz4 W
    clear iv k3 r3 l3 b3 B3 x0 x1 hz4
    go_wp2
    go_region_law (first
      | (go_simp; go_at_call 48; refine (ZK.out).mono ?_; rintro e w4 ⟨rfl, b4⟩
         have b4' : Below w3.heap.size w3 w4 := ⟨b4.os, b4.tape, b4.output, b4.size, b4.block⟩
         have HB4 := Lib.hid (HB3.out.trans (b4'.mono HB3.out.size))
         have CK := Lib.hid (clone_int (some ⟨h3, 0, none⟩) z 400 (lsR x.D z) w4 ((K3.out.below b4' K3.out.lt).row H4.out) (by have := H4.out; omega))
         rw [E.out] at CK)
      | (go_simp; go_at_call 47; refine (CK.out).mono ?_; rintro e w5 ⟨v5, rfl, o5, b5⟩
         have HB5 := Lib.hid (HB4.out.trans (b5.mono HB4.out.size))
         have O5 := Lib.hid o5
         clear o5))
    all_goals
      go_wp2
      go_ret
      exact givesL_of ⟨v5, rfl, own_lower O5.out (BX.out _ HB4.out).1.size, (BX.out _ HB5.out).1⟩ (by have := HL.out; unfold maxLen; omega)
end Go.Proofs.YtfgjogmgcamfdaaDoor
