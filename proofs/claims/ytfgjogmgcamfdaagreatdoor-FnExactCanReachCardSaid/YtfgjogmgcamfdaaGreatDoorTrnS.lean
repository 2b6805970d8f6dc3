/- Rows the other way round, and what comes to a set, of the model. -/
import Derived.Test.YtfgjogmgcamfdaaGreatDoorMsL
namespace Go.Proofs.YtfgjogmgcamfdaaGreatDoor
open Go.RowKit

set_option maxRecDepth 100000 in
set_option maxHeartbeats 8000000 in
theorem l5Turned_any (L : List (List Int)) (A : Option Addr) (z c : Nat) (w : World) (h : Mem.rd w w.heap.size [.slice A z c] L) (hz : z ≤ 400) (hs : ∀ n, n < z → (el L n).length ≤ 1048576) :
    Calls Tryz.prog 59 #[.slice A z c] w (GivesRL w (turnL L z z)) := by
  have HZ4 := Lib.hid hz
  have HS := Lib.hid hs
  have L0 := Lib.hid (LL.lit w 27 (base := w.heap.size) (Nat.le_refl _))
  have HX := Lib.hid (fun m (hm : m < z) => ll_at h hm)
  clear hs hz
  go_enter Tryz.func59, Tryz.ntmps59
  go_wp2
  go_loopg [3, 4, 5, 6] z (fun m v i v5 i6 wr => ∃ (k : Nat) (fp : List Nat), k + m = z ∧ i = .int .i64 k ∧ Hid (LL wr w.heap.size 27 v k (turnL L z k) fp) ∧ Hid (Below w.heap.size w wr))
  case atStart => exact ⟨0, _, by omega, rfl, L0, Lib.hid (below_alloc _ _)⟩
  case round =>
    clear L0
    obtain ⟨k, fp, hk, rfl, hL, hb⟩ := hrel
    have hz4 := HZ4.out
    by_cases hlt : k < z
    · have hkz : (k : Int) < (z : Int) := by omega
      obtain ⟨wo, rfl⟩ : ∃ wo : World, wo = wr := ⟨_, rfl⟩
      have I0 := Lib.hid (IL.lit wo 3 (base := wo.heap.size) (Nat.le_refl _))
      have HB := hb
      have B0 := Lib.hid (below_alloc wo (.cells #[] 3))
      clear hb
      go_wp2
      go_loopg [5, 6] z (fun m v5 i wr => ∃ (j : Nat) (q : Nat) (fr : List Nat), j + m = z ∧ i = .int .i64 j ∧ q ≤ j ∧ Hid (q = (pick (fun m => memP (el L m) k) j).length) ∧ Hid (IL wr wo.heap.size 3 v5 q (pick (fun m => memP (el L m) k) j) fr) ∧ Hid (Below wo.heap.size wo wr))
      case atStart => exact ⟨0, 0, _, by omega, rfl, Nat.le_refl _, Lib.hid rfl, I0, B0⟩
      case round =>
        clear I0 B0
        obtain ⟨j, q, fr, hj, rfl, hqj, hq, hI, hb⟩ := hrel
        have hz4 := HZ4.out
        by_cases hjz : j < z
        · have hjz' : (j : Int) < (z : Int) := by omega
          have hBw := HB.out.trans (hb.out.mono HB.out.size)
          obtain ⟨ad, A7, n7, c7, rfl, hbl, d0, r7⟩ := HX.out j hjz
          have d0 := cell_below hBw (p := ad.add j) (by rw [add_block]; exact hbl) d0
          have l7 := rd_len r7
          have HK := Lib.hid (l2Has_any A7 n7 c7 (el L j) k wr (rd_ints.1 (Mem.rd_on r7 hBw)).2 (by rw [← l7]; exact HS.out j hjz))
          have PY := Lib.hid (fun (hp : memP (el L j) k = true) => pick_yes (P := fun m => memP (el L m) k) (Nat.le_refl j) (fun x a b => by omega) hp)
          have PN := Lib.hid (fun (hp : memP (el L j) k = false) => pick_gap (P := fun m => memP (el L m) k) (n := j) (m := j + 1) (by omega) (fun x a b => by rw [show x = j by omega]; exact hp))
          change Hid (Calls _ _ _ _ (fun e w' => e = .returned (.bool (memP (el L j) k)) ∧ wr = w')) at HK
          have hsz := hb.out.size
          clear r7 l7 hBw
          generalize memP (el L j) k = bb at HK PY PN
          go_wp2_with fail
          refine (HK.out).mono ?_
          rintro e w9 ⟨rfl, rfl⟩
          cases bb
          · have E := Lib.hid (PN.out rfl)
            clear PY PN HK
            go_wp2
            go_roundg (z - (j + 1))
            case measure => omega
            case rel => exact ⟨j + 1, q, fr, by omega, by go_num, by omega, by rw [E.out]; exact hq, by rw [E.out]; exact hI, hb⟩
          · have E := Lib.hid (PY.out rfl)
            have I8 := Lib.hid (fun o => hI.out.below (below_alloc wr o))
            have HSQ := Lib.hid hsz
            clear PY PN HK hsz
            go_wp2_with (first
              | (at_builtin; refine app_il rfl _ _ rfl rfl (I8.out _) rfl (World.cell?_alloc_at _ _ _ _ (by simp)) (by omega) (by rw [World.size_alloc]; have := HSQ.out; omega) ?_; intro v9 w9 f9 l9 on9 in9))
            have lo9 := (I8.out (.cells #[.int .i64 j] 3)).lt
            have b89 : Below wo.heap.size wo w9 := (hb.out.alloc hb.out.size _).trans (on9.below (by rw [World.size_alloc]; have := HSQ.out; omega) fun b hb => (lo9 b hb).1)
            have HB9 := Lib.hid b89
            clear b89 lo9
            go_roundg (z - (j + 1))
            case measure => omega
            case rel => exact ⟨j + 1, q + 1, f9, by omega, by go_num, by omega, by rw [E.out, List.length_append]; exact Lib.hid (by rw [hq.out]; rfl), by rw [E.out]; exact Lib.hid l9, HB9⟩
        · obtain rfl : j = z := by omega
          have I := hI.out
          obtain ⟨om, nd⟩ := I.out (by unfold maxLen; omega)
          have lo := I.lt
          obtain ⟨A8, c8, rfl⟩ := row_slice I.1
          have HOM := Lib.hid (fun o => Mem.own_below om (below_alloc wr o))
          have HND := Lib.hid nd
          have HLO := Lib.hid (fun b hb => (lo b hb).1)
          have HBQ := Lib.hid (fun o => hb.out.trans ((below_alloc wr o).mono hb.out.size))
          have HS6 := Lib.hid HB.out.size
          clear I om nd lo
          go_wp2_with (first
            | (at_builtin; refine app_ll rfl _ _ rfl rfl hL.out (HBQ.out _) (HOM.out _) HND.out HLO.out rfl (World.cell?_alloc_at _ _ _ _ (by simp)) (by omega) HS6.out ?_; intro v9 w9 f9 q1 q2 q3))
          go_roundg (j - (k + 1))
          case measure => omega
          case rel =>
            refine ⟨k + 1, f9, by omega, by go_num, by rw [turnL_succ]; exact Lib.hid q1, Lib.hid ((HB.out.trans ((HBQ.out _).mono HB.out.size)).trans (q2.below ?_ fun b hb => (hL.out.lt b hb).1))⟩
            have := (HBQ.out (.cells #[.slice A8 q c8] 27)).size
            have := HS6.out
            omega
    · obtain rfl : k = z := by omega
      have hO := hL.out.out (by unfold maxLen; omega)
      obtain ⟨Av, cv, rfl⟩ := row_slice hL.out.2.2.choose_spec.choose_spec.1
      have HO := Lib.hid (Mem.own_rd hO)
      clear hO
      go_wp2
      go_ret
      exact ⟨_, _, _, rfl, HO.out, hb.out⟩

set_option maxRecDepth 100000 in
set_option maxHeartbeats 4000000 in
theorem canReach_spec (s : Sy) (l : List Int) (A1 : Option Addr) (n1 c1 : Nat) (A2 : Option Addr) (n2 c2 : Nat) (A3 : Option Addr) (n3 c3 : Nat) (w : World) (h1 : Mem.rd w w.heap.size [.slice A1 n1 c1] s.vars) (h2 : Mem.rd w w.heap.size [.slice A2 n2 c2] s.rules) (h3 : Mem.rd w w.heap.size [.slice A3 n3 c3] l) :
    Calls Tryz.prog 25 #[.agg #[.slice A1 n1 c1, .slice A2 n2 c2], .slice A3 n3 c3] w (GivesL w (canB s l)) := by
  have BX := Lib.hid (sy_box (w := w) (v1 := .slice A1 n1 c1) (v2 := .slice A2 n2 c2))
  have SV := Lib.hid (fun o => setValid_spec s l A1 n1 c1 A2 n2 c2 A3 n3 c3 (w.alloc o) (Mem.rd_on_alloc h1 o) (Mem.rd_on_alloc h2 o) (Mem.rd_on_alloc h3 o))
  have HL := Lib.hid (canB_len s l)
  cases hz : setB s l
  · have E : Hid (canB s l = []) := Lib.hid (by unfold canB; rw [hz]; rfl)
    have HZ := Lib.hid hz; clear hz
    go_enter Tryz.func25, Tryz.ntmps25
    go_wp2_with fail
    refine (SV.out _).mono ?_
    rintro e w2 ⟨rfl, b2⟩
    rw [HZ.out]
    go_wp2
    go_ret
    rw [E.out]
    exact ⟨none, 0, 0, [], rfl, own_none _, List.nodup_nil, by simp, below_call b2⟩
  · have hz' := hz
    unfold setB at hz'
    rw [Bool.and_eq_true] at hz'
    have ok := sysOk_of hz'.1
    have hbd := sizeB_bd hz'.1
    obtain ⟨z, hzz⟩ : ∃ z : Nat, (z : Int) = sizeB s := ⟨(sizeB s).toNat, by omega⟩
    have hz4 : z ≤ 400 := by omega
    have E : Hid (pick (cutR (lsR (dst (rowE (turnL (stepsL s z) z z)) (memP l) z z) z) z) z = canB s l) := Lib.hid (by
      unfold canB
      rw [hz, if_pos rfl, show (sizeB s).toNat = z by omega]
      refine pick_congr fun x hx => ?_
      unfold cutR
      rw [decide_eq_true hx, Bool.true_and, lsR_ix _ hx, dst_turn ok _ z hx])
    have TC := Lib.hid (fun W (B : Below w.heap.size w W) => l4Steps_any s z A1 n1 c1 A2 n2 c2 W (Mem.rd_on h1 B) (Mem.rd_on h2 B) hz'.1 hzz hz4)
    have UC := Lib.hid (fun A c W h => l5Turned_any (stepsL s z) A z c W h hz4 fun n hn => by
      rw [stepsL_at s hn]
      have a := rowL_len s n
      have b := Nat.pow_le_pow_right (n := 2) (by omega) ok.most
      omega)
    have hso : sizeOf s = z := by unfold sizeOf; rw [if_pos hz'.1, hzz]
    have SZ := Lib.hid (fun W (B : Below w.heap.size w W) => sizeOf_spec s A1 n1 c1 A2 n2 c2 W (Mem.rd_on h1 B) (Mem.rd_on h2 B))
    rw [hso] at SZ
    have KC := Lib.hid (fun W (B : Below w.heap.size w W) => l4Marks_any l A3 n3 c3 z W (Mem.rd_on h3 B) (fun k hk => by have := sets_range hz'.2 k hk; omega) hz4)
    have SC := Lib.hid (fun A c g W h hM => l5Steps_any (turnL (stepsL s z) z z) (memP l) A z c g W h hM hz4 (by omega) (turn_range _))
    have OC := Lib.hid (fun F A c W (hF : F.length = z) h => l5Told_any F A z c W h hz4)
    have LC := Lib.hid (fun P g W hM => l4List_any P g z W hM hz4)
    have HLN := Lib.hid (stepsL_len s z)
    have HTN := Lib.hid (turnL_len (stepsL s z) z z)
    have HFN := Lib.hid (lsR_len (dst (rowE (turnL (stepsL s z) z z)) (memP l) z z) z)
    generalize memP l = M at *
    generalize lsR (dst (rowE (turnL (stepsL s z) z z)) M z z) z = F at *
    generalize turnL (stepsL s z) z z = U at *
    generalize stepsL s z = L at *
    have HZ := Lib.hid hz; have HZ4 := Lib.hid hz4; clear hz hz' ok hbd hzz hz4 hso
    go_enter Tryz.func25, Tryz.ntmps25
    go_wp2_with fail
    refine (SV.out _).mono ?_
    rintro e w2 ⟨rfl, b2⟩
    rw [HZ.out]
    obtain ⟨B2, x0, x1⟩ := BX.out _ b2
    have TK := Lib.hid (TC.out w2.drew ⟨B2.os, B2.tape, B2.output, B2.size, B2.block⟩)
    have HB2 := Lib.hid b2
    clear b2 B2
    go_wp2
    go_region_law (first
      | (go_simp; go_at_call 60; refine (TK.out).mono ?_; rintro e w3 ⟨A4, n4, c4, rfl, r4, b3⟩
         obtain rfl : n4 = z := (rd_len r4).symm.trans HLN.out
         have b23 : Below w2.heap.size w2 w3 := ⟨b3.os, b3.tape, b3.output, b3.size, b3.block⟩
         have hb3 := HB2.out.trans (b23.mono HB2.out.size)
         obtain ⟨B3, y0, y1⟩ := BX.out _ hb3
         have UK := Lib.hid (UC.out A4 c4 w3 r4)
         clear r4)
      | (go_simp; go_at_call 59; refine (UK.out).mono ?_; rintro e w4 ⟨A5, n5, c5, rfl, r5, b4⟩
         obtain rfl : n5 = n4 := (rd_len r5).symm.trans HTN.out
         have hb4 := hb3.trans (b4.mono hb3.size)
         obtain ⟨B4, z0, z1⟩ := BX.out _ hb4
         have R5 := Lib.hid r5
         have SK := Lib.hid (SZ.out w4 B4)
         clear r5)
      | (go_simp; go_at_call 62; refine (SK.out).mono ?_; rintro e w5 ⟨rfl, b5⟩
         have hb5 := hb4.trans (b5.mono hb4.size)
         obtain ⟨B5, u0, u1⟩ := BX.out _ hb5
         have KK := Lib.hid (KC.out w5 B5))
      | (go_simp; go_at_call 61; refine (KK.out).mono ?_; rintro e w6 ⟨g6, rfl, m6, l6, b6⟩
         have b46 := b5.trans (b6.mono b5.size)
         have hb6 := hb5.trans (b6.mono hb5.size)
         have GK := Lib.hid (SC.out A5 c5 g6 w6 (Mem.rd_on R5.out b46) m6)
         clear m6)
      | (go_simp; go_at_call 58; refine (GK.out).mono ?_; rintro e w7 ⟨v7, rfl, o7, b7⟩
         have hb7 := hb6.trans (b7.mono hb6.size)
         obtain ⟨A7, n7, c7, f7, e7, om7, _, _, _⟩ := givesL_of ⟨v7, rfl, o7, b7⟩ (by have := HFN.out; have := HZ4.out; unfold maxLen; omega)
         have e7 : v7 = .slice A7 n7 c7 := Ending.returned.inj e7
         subst e7
         have r7 := Mem.own_rd om7
         obtain rfl : n7 = n5 := (rd_len r7).symm.trans HFN.out
         have OK7 := Lib.hid (OC.out F A7 c7 w7 HFN.out r7)
         clear o7 om7 r7)
      | (go_simp; go_at_call 32; refine (OK7.out).mono ?_; rintro e w8 ⟨g8, rfl, m8, l8, b8⟩
         have hb8 := hb7.trans (b8.mono hb7.size)
         have LK := LC.out (cutR F n7) g8 w8 m8
         rw [E.out] at LK
         have LK := Lib.hid LK
         clear m8)
      | (go_simp; go_at_call 31; refine (LK.out).mono ?_; rintro e w9 ⟨v9, rfl, o9, b9⟩
         have hb9 := Lib.hid (hb8.trans (b9.mono hb8.size))
         have O9 := Lib.hid o9
         have L8 := Lib.hid (BX.out _ hb8).1.size
         clear o9))
    all_goals
      go_wp2
      go_ret
      exact givesL_of ⟨v9, rfl, own_lower O9.out L8.out, (BX.out _ hb9.out).1⟩ (by have := HL.out; unfold maxLen; omega)
end Go.Proofs.YtfgjogmgcamfdaaGreatDoor
