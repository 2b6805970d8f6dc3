/- From which states a system can come to a set, of the program. -/
import Derived.Test.YtfgjogmgcamfdaaGreatDoorTrn
namespace Go.Proofs.YtfgjogmgcamfdaaGreatDoor
open Go.RowKit

theorem can_eq {s : Sy} {l : List Int} {z : Nat} {x : Sst} (hz : setB s l = true) (hzz : (z : Int) = sizeB s) (iv : Inv (turnT (stepT s z)) (memP l) z x x.Q.length) : pick (memP x.Q) 448 = canB s l := by
  have hz' := hz
  unfold setB at hz'
  rw [Bool.and_eq_true] at hz'
  have := sizeB_bd hz'.1
  rw [queue_pick (by omega) iv]
  unfold canB
  rw [hz, if_pos rfl, show (sizeB s).toNat = z by omega]
  exact pick_congr fun n hn => by rw [dst_back_tab s _ (by omega) hn]

set_option maxRecDepth 100000 in
set_option maxHeartbeats 4000000 in
theorem canReach_impl (s : Sy) (l : List Int) (A1 : Option Addr) (n1 c1 : Nat) (A2 : Option Addr) (n2 c2 : Nat) (A3 : Option Addr) (n3 c3 : Nat) (w : World) (h1 : Mem.rd w w.heap.size [.slice A1 n1 c1] s.vars) (h2 : Mem.rd w w.heap.size [.slice A2 n2 c2] s.rules) (h3 : Mem.rd w w.heap.size [.slice A3 n3 c3] l) (hT : DoorAt w) :
    Calls Tryz.prog 26 #[.agg #[.slice A1 n1 c1, .slice A2 n2 c2], .slice A3 n3 c3] w (GivesL w (canB s l)) := by
  have BX := Lib.hid (sy_box (w := w) (v1 := .slice A1 n1 c1) (v2 := .slice A2 n2 c2))
  have SV := Lib.hid (fun o => setValid_impl s l A1 n1 c1 A2 n2 c2 A3 n3 c3 (w.alloc o) (Mem.rd_on_alloc h1 o) (Mem.rd_on_alloc h2 o) (Mem.rd_on_alloc h3 o))
  have HL := Lib.hid (canB_len s l)
  cases hz : setB s l
  · have E : Hid (canB s l = []) := Lib.hid (by unfold canB; rw [hz]; rfl)
    have HZ := Lib.hid hz; clear hz
    go_enter Tryz.func26, Tryz.ntmps26
    go_wp2_with fail
    refine (SV.out _).mono ?_
    rintro e w2 ⟨rfl, b2⟩
    rw [HZ.out]
    go_wp2
    go_ret
    rw [E.out]
    exact ⟨none, 0, 0, [], rfl, own_none _, List.nodup_nil, by simp, below_call b2⟩
  · have hz' := hz
    unfold setB at hz'
    rw [Bool.and_eq_true] at hz'
    have ok := sysOk_of hz'.1
    have hbd := sizeB_bd hz'.1
    obtain ⟨z, hzz⟩ : ∃ z : Nat, (z : Int) = sizeB s := ⟨(sizeB s).toNat, by omega⟩
    have hz4 : z ≤ 400 := by omega
    have TC := Lib.hid (fun W (B : Below w.heap.size w W) => steps_any s z A1 n1 c1 A2 n2 c2 W (Mem.rd_on h1 B) (Mem.rd_on h2 B) ok hzz hz4)
    have UC := Lib.hid (fun g W hg hT => turned_any (stepT s z) z g W hg hz4 (stepT_lt ok hzz) hT)
    have OC := Lib.hid (fun W (B : Below w.heap.size w W) => setOf_any l A3 n3 c3 W (Mem.rd_on h3 B) fun k hk => by have := sets_range hz'.2 k hk; omega)
    have SC := Lib.hid (fun g W hg hT => searchFrom_any (turnT (stepT s z)) (memP l) z g W hg hz4 (turnT_lt fun _ _ => stepT_from) (fun n h => by
      obtain ⟨i, hi, e⟩ := mem_ix.1 h
      have := sets_range hz'.2 i hi
      omega) hT)
    have QP := Lib.hid (fun x (iv : Inv (turnT (stepT s z)) (memP l) z x x.Q.length) => can_eq hz hzz iv)
    have QI := Lib.hid (fun x (iv : Inv (turnT (stepT s z)) (memP l) z x x.Q.length) => queue_in hz4 iv)
    have HZ := Lib.hid hz; have HT := Lib.hid hT; have H4 := Lib.hid hz4; clear hz hz' hzz hbd hz4 hT ok
    generalize turnT (stepT s z) = U at *
    generalize stepT s z = T at *
    generalize memP l = M at *
    go_enter Tryz.func26, Tryz.ntmps26
    go_wp2_with fail
    refine (SV.out _).mono ?_
    rintro e w2 ⟨rfl, b2⟩
    rw [HZ.out]
    obtain ⟨B2, x0, x1⟩ := BX.out _ b2
    have TK := Lib.hid (TC.out w2 B2)
    have HB2 := Lib.hid b2
    clear B2 b2
    go_wp2_with fail
    refine (TK.out).mono ?_
    rintro e w3 ⟨g3, rfl, m3, l3, b3⟩
    have HB3 := Lib.hid (HB2.out.trans (b3.mono HB2.out.size))
    have UK := Lib.hid (UC.out g3 w3 m3 (HT.out.on (BX.out _ HB3.out).1))
    clear m3 l3 b3
    go_wp2_with fail
    refine (UK.out).mono ?_
    rintro e w4 ⟨g4, rfl, m4, l4, b4⟩
    have HB4 := Lib.hid (HB3.out.trans (b4.mono HB3.out.size))
    have OK4 := Lib.hid (OC.out w4 (BX.out _ HB4.out).1)
    have M4 := Lib.hid m4
    clear m4 l4 b4
    go_wp2_with fail
    refine (OK4.out).mono ?_
    rintro e w5 ⟨rfl, b5⟩
    have HB5 := Lib.hid (HB4.out.trans (b5.mono HB4.out.size))
    have SK := Lib.hid (SC.out g4 w5 (M4.out.below b5 M4.out.lt) (HT.out.on (BX.out _ HB5.out).1))
    clear b5
    go_wp2_with fail
    refine (SK.out).mono ?_
    rintro e w6 ⟨x, iv, h6, A6, c6, f6, rfl, k6, r6, l6, b6⟩
    have RK := Lib.hid (reached_any x h6 A6 c6 w6 k6 (IL.rd r6 (by have := iv.short; have := H4.out; omega)) (QI.out x iv))
    have E := Lib.hid (QP.out x iv)
    have HB6 := Lib.hid (HB5.out.trans (b6.mono HB5.out.size))
    clear iv k6 r6 l6 b6
    go_wp2_with fail
    refine (RK.out).mono ?_
    rintro e w7 ⟨rfl, b7⟩
    have HB7 := Lib.hid (HB6.out.trans (b7.mono HB6.out.size))
    have LK := setList_any (memP x.Q) w7 (HT.out.on (BX.out _ HB7.out).1)
    rw [E.out] at LK
    have LK := Lib.hid LK
    clear b7
    go_wp2_with fail
    refine (LK.out).mono ?_
    rintro e w8 ⟨v8, rfl, o8, b8⟩
    have HB8 := Lib.hid (HB7.out.trans (b8.mono HB7.out.size))
    have O8 := Lib.hid o8
    clear o8 b8
    go_wp2
    go_ret
    exact givesL_of ⟨v8, rfl, own_lower O8.out (BX.out _ HB7.out).1.size, (BX.out _ HB8.out).1⟩ (by have := HL.out; unfold maxLen; omega)
end Go.Proofs.YtfgjogmgcamfdaaGreatDoor
