/- What a system comes to, of the program. -/
import Derived.Test.YtfgjogmgcamfdaaGreatDoorSeF
import Derived.Test.YtfgjogmgcamfdaaGreatDoorPf
import Derived.Deep.RegionHeld3
import Derived.Deep.RegionLaw
namespace Go.Proofs.YtfgjogmgcamfdaaGreatDoor
open Go.RowKit

theorem IL.rd {w : World} {base k c : Nat} {t : TypeId} {A : Option Addr} {l : List Int} {fp : List Nat} (h : IL w base t (.slice A k c) k l fp) (hk : k ≤ 1000000) : Mem.rd w w.heap.size [.slice A k c] l :=
  Mem.own_rd (h.out (by unfold maxLen; omega)).1

set_option maxRecDepth 100000 in
set_option maxHeartbeats 4000000 in
theorem search_any (s : Sy) (z : Nat) (A1 : Option Addr) (n1 c1 : Nat) (A2 : Option Addr) (n2 c2 : Nat) (w : World) (h1 : Mem.rd w w.heap.size [.slice A1 n1 c1] s.vars) (h2 : Mem.rd w w.heap.size [.slice A2 n2 c2] s.rules)
    (hz : sysB s = true) (hzz : (z : Int) = sizeB s) (hT : DoorAt w) :
    Calls Tryz.prog 37 #[.agg #[.slice A1 n1 c1, .slice A2 n2 c2]] w (fun e w' => ∃ x, Inv (stepT s z) (oneP (firstN s)) z x x.Q.length ∧ GivesSea w x e w') := by
  have ok := sysOk_of hz
  have hbd := sizeB_bd hz
  have hz4 : z ≤ 400 := by omega
  have BX := Lib.hid (sy_box (w := w) (v1 := .slice A1 n1 c1) (v2 := .slice A2 n2 c2))
  have TC := Lib.hid (fun W (B : Below w.heap.size w W) => steps_any s z A1 n1 c1 A2 n2 c2 W (Mem.rd_on h1 B) (Mem.rd_on h2 B) ok hzz hz4)
  have FC := Lib.hid (fun W (B : Below w.heap.size w W) => firstAlone_any s A1 n1 c1 A2 n2 c2 W (Mem.rd_on h1 B) (Mem.rd_on h2 B) hz)
  have SC := Lib.hid (fun g W hg hT => searchFrom_any (stepT s z) (oneP (firstN s)) z g W hg hz4 (stepT_lt ok hzz) (fun n h => by rw [oneP_iff] at h; have := (firstN_eq ok).2; omega) hT)
  have HD := Lib.hid hT
  clear hT hz hzz hbd ok
  generalize stepT s z = T at *
  generalize oneP (firstN s) = M at *
  obtain ⟨B0, x0, x1⟩ := BX.out _ (Below.refl _ _)
  have TK := Lib.hid (TC.out (w.alloc (.cells #[.slice A1 n1 c1, .slice A2 n2 c2] 32)).drew ⟨B0.os, B0.tape, B0.output, B0.size, B0.block⟩)
  clear B0
  go_enter Tryz.func37, Tryz.ntmps37
  go_wp2
  go_region_law (first
    | (go_simp; go_at_call 64; refine (TK.out).mono ?_; rintro e w3 ⟨g3, rfl, m3, l3, b3⟩
       have b3' : Below (w.alloc (.cells #[.slice A1 n1 c1, .slice A2 n2 c2] 32)).heap.size (w.alloc (.cells #[.slice A1 n1 c1, .slice A2 n2 c2] 32)) w3 := ⟨b3.os, b3.tape, b3.output, b3.size, b3.block⟩
       obtain ⟨B3, y0, y1⟩ := BX.out _ b3'
       have FK := Lib.hid (FC.out w3 B3)
       have M3 := Lib.hid m3
       have HB3 := Lib.hid b3'
       clear m3)
    | (go_simp; go_at_call 69; refine (FK.out).mono ?_; rintro e w5 ⟨rfl, b5⟩
       have hb5 := HB3.out.trans (b5.mono HB3.out.size)
       obtain ⟨B5, z0, z1⟩ := BX.out _ hb5
       have SK := Lib.hid (SC.out g3 w5 (M3.out.below b5 M3.out.lt) (HD.out.on B5)))
    | (go_simp; go_at_call 66; refine (SK.out).mono ?_; rintro e w7 ⟨x, iv, h7, A7, c7, f7, rfl, k7, r7, l7, b7⟩
       have HB7 := Lib.hid (hb5.trans (b7.mono hb5.size))
       have HIV := Lib.hid iv
       have HK7 := Lib.hid k7
       have HR7 : Hid (IL w7 w.heap.size 3 (.slice A7 x.Q.length c7) x.Q.length x.Q f7) := Lib.hid ⟨own_lower r7.1 (BX.out _ hb5).1.size, r7.2⟩
       have HL7 := Lib.hid (Nat.le_trans (BX.out _ hb5).1.size l7)
       clear iv k7 r7))
  all_goals
    go_wp2
    go_ret
    exact ⟨x, HIV.out, h7, A7, c7, f7, rfl, HK7.out, HR7.out, HL7.out, (BX.out _ HB7.out).1⟩

set_option maxRecDepth 100000 in
set_option maxHeartbeats 4000000 in
theorem reached_any (x : Sst) (h : Nat) (A : Option Addr) (c : Nat) (w : World) (hm : Blk w h 97 (srcC x.D x.H (.slice A x.Q.length c))) (hq : Mem.rd w w.heap.size [.slice A x.Q.length c] x.Q) (hr : ∀ k, k < x.Q.length → 0 ≤ ix x.Q k ∧ ix x.Q k < 448) :
    Calls Tryz.prog 38 #[.pointer (some ⟨h, 0, none⟩)] w (GivesV w (wsV (memP x.Q))) := by
  obtain ⟨n, hn⟩ : ∃ n, n = x.Q.length := ⟨_, rfl⟩
  rw [← hn] at hm hq
  have SK := Lib.hid (setOf_any x.Q A n c (w.alloc (.cells #[.int .u64 0, .int .u64 0, .int .u64 0, .int .u64 0, .int .u64 0, .int .u64 0, .int .u64 0] 61)) (Mem.rd_on hq (below_alloc _ _)) hr)
  have kz := Lib.hid (Blk.new w #[.int .u64 0, .int .u64 0, .int .u64 0, .int .u64 0, .int .u64 0, .int .u64 0, .int .u64 0] 61)
  have qc : (w.alloc (.cells #[.int .u64 0, .int .u64 0, .int .u64 0, .int .u64 0, .int .u64 0, .int .u64 0, .int .u64 0] 61)).cell? ⟨h, 800, none⟩ = some (.slice A n c) := ((hm.alloc _).cell 800).trans (srcC_q _ _ _)
  generalize memP x.Q = P at *
  unfold wsV at SK
  clear hm hq hr hn
  go_enter Tryz.func38, Tryz.ntmps38
  go_wp2_with fail
  refine (SK.out).mono ?_
  rintro e w2 ⟨rfl, b2⟩
  have kZ := kz.out.below b2 (by simp)
  obtain ⟨q0, q1, q2, q3, q4, q5, q6⟩ := seven_cells kZ
  obtain ⟨f0, f1, f2, f3, f4, f5, f6⟩ := seven_frozen kZ
  have B := Lib.hid (below_call b2)
  clear kZ b2
  go_wp2_with fail
  refine bodyPost_ret (v := wsV P) (by simp [results, Tryz.results38, go_sem, q0, q1, q2, q3, q4, q5, q6, wsV]) rfl ⟨rfl, ?_⟩
  exact ((((((B.out.setCell (Nat.le_refl _) _).setCell (Nat.le_refl _) _).setCell (Nat.le_refl _) _).setCell (Nat.le_refl _) _).setCell (Nat.le_refl _) _).setCell (Nat.le_refl _) _).setCell (Nat.le_refl _) _

set_option maxRecDepth 100000 in
set_option maxHeartbeats 4000000 in
theorem reachOf_impl (s : Sy) (A1 : Option Addr) (n1 c1 : Nat) (A2 : Option Addr) (n2 c2 : Nat) (w : World) (h1 : Mem.rd w w.heap.size [.slice A1 n1 c1] s.vars) (h2 : Mem.rd w w.heap.size [.slice A2 n2 c2] s.rules) (hT : DoorAt w) :
    Calls Tryz.prog 11 #[.agg #[.slice A1 n1 c1, .slice A2 n2 c2]] w (GivesL w (reachB s)) := by
  have BX := Lib.hid (sy_box (w := w) (v1 := .slice A1 n1 c1) (v2 := .slice A2 n2 c2))
  have SV := Lib.hid (fun o => sysValid_impl s A1 n1 c1 A2 n2 c2 (w.alloc o) (Mem.rd_on_alloc h1 o) (Mem.rd_on_alloc h2 o))
  have HL := Lib.hid (reachB_len s)
  cases hz : sysB s
  · have E : Hid (reachB s = []) := Lib.hid (by unfold reachB; rw [hz]; rfl)
    have HZ := Lib.hid hz; clear hz
    go_enter Tryz.func11, Tryz.ntmps11
    go_wp2_with fail
    refine (SV.out _).mono ?_
    rintro e w2 ⟨rfl, b2⟩
    rw [HZ.out]
    go_wp2
    go_ret
    rw [E.out]
    exact ⟨none, 0, 0, [], rfl, own_none _, List.nodup_nil, by simp, below_call b2⟩
  · have hbd := sizeB_bd hz
    obtain ⟨z, hzz⟩ : ∃ z : Nat, (z : Int) = sizeB s := ⟨(sizeB s).toNat, by omega⟩
    have hz4 : z ≤ 400 := by omega
    have SC := Lib.hid (fun W (B : Below w.heap.size w W) => search_any s z A1 n1 c1 A2 n2 c2 W (Mem.rd_on h1 B) (Mem.rd_on h2 B) hz hzz (hT.on B))
    have QP := Lib.hid (fun x (iv : Inv (stepT s z) (oneP (firstN s)) z x x.Q.length) => reach_eq hz hzz iv)
    have QI := Lib.hid (fun x (iv : Inv (stepT s z) (oneP (firstN s)) z x x.Q.length) => queue_in hz4 iv)
    have HZ := Lib.hid hz; have HT := Lib.hid hT; have H4 := Lib.hid hz4; clear hz hzz hbd hz4 hT
    go_enter Tryz.func11, Tryz.ntmps11
    go_wp2_with fail
    refine (SV.out _).mono ?_
    rintro e w2 ⟨rfl, b2⟩
    rw [HZ.out]
    obtain ⟨B2, x0, x1⟩ := BX.out _ b2
    have SK := Lib.hid (SC.out w2 B2)
    have HB2 := Lib.hid b2
    clear B2 b2
    go_wp2_with fail
    refine (SK.out).mono ?_
    rintro e w3 ⟨x, iv, h3, A3, c3, f3, rfl, k3, r3, l3, b3⟩
    have RK := Lib.hid (reached_any x h3 A3 c3 w3 k3 (IL.rd r3 (by have := iv.short; have := H4.out; omega)) (QI.out x iv))
    have E := Lib.hid (QP.out x iv)
    have HB3 := Lib.hid (HB2.out.trans (b3.mono HB2.out.size))
    clear iv k3 r3 l3 b3
    go_wp2_with fail
    refine (RK.out).mono ?_
    rintro e w4 ⟨rfl, b4⟩
    have HB4 := Lib.hid (HB3.out.trans (b4.mono HB3.out.size))
    have LK := setList_any (memP x.Q) w4 (HT.out.on (BX.out _ HB4.out).1)
    rw [E.out] at LK
    have LK := Lib.hid LK
    clear b4
    go_wp2_with fail
    refine (LK.out).mono ?_
    rintro e w5 ⟨v5, rfl, o5, b5⟩
    have HB5 := Lib.hid (HB4.out.trans (b5.mono HB4.out.size))
    have O5 := Lib.hid o5
    clear o5 b5
    go_wp2
    go_ret
    exact givesL_of ⟨v5, rfl, own_lower O5.out (BX.out _ HB4.out).1.size, (BX.out _ HB5.out).1⟩ (by have := HL.out; unfold maxLen; omega)
end Go.Proofs.YtfgjogmgcamfdaaGreatDoor
