/- The states in which an expression is true, of the model. -/
import Derived.Test.YtfgjogmgcamfdaaGreatDoorWh
import Derived.Test.YtfgjogmgcamfdaaGreatDoorAtS
import Derived.Test.YtfgjogmgcamfdaaGreatDoorPt
namespace Go.Proofs.YtfgjogmgcamfdaaGreatDoor
open Go.RowKit

set_option maxRecDepth 100000 in
set_option maxHeartbeats 4000000 in
theorem statesWhere_spec (s : Sy) (l : List Tm) (A1 : Option Addr) (n1 c1 : Nat) (A2 : Option Addr) (n2 c2 : Nat) (A3 : Option Addr) (n3 c3 : Nat) (w : World) (h1 : Mem.rd w w.heap.size [.slice A1 n1 c1] s.vars) (h2 : Mem.rd w w.heap.size [.slice A2 n2 c2] s.rules) (h3 : Mem.rd w w.heap.size [.slice A3 n3 c3] l) :
    Calls Tryz.prog 47 #[.agg #[.slice A1 n1 c1, .slice A2 n2 c2], .slice A3 n3 c3] w (GivesL w (whereB s l)) := by
  have BX := Lib.hid (sy_box (w := w) (v1 := .slice A1 n1 c1) (v2 := .slice A2 n2 c2))
  have SV := Lib.hid (fun W (B : Below w.heap.size w W) => sysValid_spec s A1 n1 c1 A2 n2 c2 W (Mem.rd_on h1 B) (Mem.rd_on h2 B))
  have SZ := Lib.hid (fun W (B : Below w.heap.size w W) => sizeOf_spec s A1 n1 c1 A2 n2 c2 W (Mem.rd_on h1 B) (Mem.rd_on h2 B))
  have KC := Lib.hid (fun W (B : Below w.heap.size w W) => l2Is_any A3 n3 c3 l n1 2 W (Mem.rd_on h3 B))
  have L1 := rd_len h1
  have L3 := rd_len h3
  have hown0 := World.ownsRow_lit (base := w.heap.size + 1) (e := 3) (size := 1) (w.alloc (.cells #[.slice A1 n1 c1, .slice A2 n2 c2] 32)) #[] 0 (by simp) (by unfold maxLen; omega) rfl
  rw [World.size_alloc] at hown0
  have b01 : Below (w.alloc (.cells #[.slice A1 n1 c1, .slice A2 n2 c2] 32)).heap.size (w.alloc (.cells #[.slice A1 n1 c1, .slice A2 n2 c2] 32)) ((w.alloc (.cells #[.slice A1 n1 c1, .slice A2 n2 c2] 32)).alloc (.cells #[] 3)) := below_alloc _ _
  obtain ⟨F, hF⟩ : ∃ F, F = whereB s l := ⟨_, rfl⟩
  rw [← hF]
  cases hz : sysB s
  · have E : Hid (F = []) := Lib.hid (by rw [hF]; unfold whereB; rw [hz]; rfl)
    have HZ := Lib.hid hz; clear hz hF L1 L3
    go_enter Tryz.func47, Tryz.ntmps47
    go_wp2_with fail
    refine (SV.out _ (BX.out _ b01).1).mono ?_
    rintro e w2 ⟨rfl, b2⟩
    rw [HZ.out]
    have hb2 := b01.trans (b2.mono b01.size)
    have ho := own_below hown0 b2
    go_wp2
    go_ret
    rw [E.out]
    exact givesL_of ⟨_, rfl, own_lower ho (by omega), (BX.out _ hb2).1⟩ (by unfold maxLen; simp)
  · have ok := sysOk_of hz
    have hb := sizeB_bd hz
    cases hk : kindB l n1 2
    · have E : Hid (F = []) := Lib.hid (by rw [hF]; unfold whereB; rw [hz, L1, hk]; rfl)
      have HZ := Lib.hid hz; have HK := Lib.hid hk; clear hz hF L1 L3 hk
      go_enter Tryz.func47, Tryz.ntmps47
      go_wp2_with fail
      refine (SV.out _ (BX.out _ b01).1).mono ?_
      rintro e w2 ⟨rfl, b2⟩
      rw [HZ.out]
      have hb2 := b01.trans (b2.mono b01.size)
      have ho := own_below hown0 b2
      obtain ⟨B2, x0, x1⟩ := BX.out _ hb2
      go_wp2_with fail
      refine (KC.out _ B2).mono ?_
      rintro e w3 ⟨rfl, b3⟩
      rw [HK.out]
      have ho := own_below ho b3
      have hb3 := hb2.trans (b3.mono hb2.size)
      go_wp2
      go_ret
      rw [E.out]
      exact givesL_of ⟨_, rfl, own_lower ho (by omega), (BX.out _ hb3).1⟩ (by unfold maxLen; simp)
    · obtain ⟨z, hzz⟩ : ∃ z : Nat, (z : Int) = sizeB s := ⟨(sizeB s).toNat, by omega⟩
      have hz4 : z ≤ 400 := by omega
      have E : Hid (F = pick (whP s l) z) := Lib.hid (by
        rw [hF]; unfold whereB; rw [hz, L1, hk, ← hzz]; rfl)
      have hso : sizeOf s = z := by unfold sizeOf; rw [if_pos hz, hzz]
      rw [hso] at SZ
      have AC := Lib.hid (fun k (hk : k < z) W (B : Below w.heap.size w W) => l4State_any s k A1 n1 c1 A2 n2 c2 W (Mem.rd_on h1 B) (Mem.rd_on h2 B) hz (by omega) (by omega))
      have hx : ExprOk l s.vars.length := expr_ok (show kindB l (s.vars.length : Nat) 2 = true by rw [L1]; exact hk)
      obtain ⟨ks, hks⟩ := hx.ks
      have c_lo := hx.lo
      have c_hi := hx.hi
      rw [L3] at hks c_lo c_hi
      have SL := Lib.hid (fun k => (stL_len s.vars k).trans L1)
      have VC := Lib.hid (fun k W A n c (B : Below w.heap.size w W) (h : Mem.rd W W.heap.size [.slice A n c] (stL s.vars k)) => l2Last_any A3 n3 c3 A n c l (stL s.vars k) ks W (rd_tms.1 (Mem.rd_on h3 B)).2 (rd_ints.1 h).2 c_hi c_lo (sys_nums ok (stL_has _ ok.vars)) (by rw [stL_len]; exact hks))
      obtain ⟨P, hP⟩ : ∃ P, P = whP s l := ⟨_, rfl⟩
      have HP := Lib.hid (fun k => show P k = decide (valB l (stL s.vars k) = 1) by rw [hP]; rfl)
      rw [← hP] at E
      have HN := Lib.hid (show n1 ≤ 5 by have := ok.hi; omega)
      have HZ := Lib.hid hz; have HK := Lib.hid hk; have HZ4 := Lib.hid hz4
      clear hz hF L1 L3 hk hzz hso hx c_lo c_hi hks hP hb ok
      go_enter Tryz.func47, Tryz.ntmps47
      go_wp2_with fail
      refine (SV.out _ (BX.out _ b01).1).mono ?_
      rintro e w2 ⟨rfl, b2⟩
      rw [HZ.out]
      have hb2 := b01.trans (b2.mono b01.size)
      have ho := own_below hown0 b2
      obtain ⟨B2, x0, x1⟩ := BX.out _ hb2
      go_wp2_with fail
      refine (KC.out _ B2).mono ?_
      rintro e w3 ⟨rfl, b3⟩
      rw [HK.out]
      have ho := own_below ho b3
      have hb3 := hb2.trans (b3.mono hb2.size)
      have HO := Lib.hid ho
      have HB3 := Lib.hid hb3
      clear ho hb3 hown0 b01 b2 hb2 B2 x0 x1 b3
      go_wp2
      go_loopg [5, 6] z (fun m v i wr => ∃ k j : Nat, k + m = z ∧ i = .int .i64 k ∧ Hid (j = (pick P k).length) ∧ j ≤ k ∧ Hid (wr.ownsRow (w.heap.size + 1) 3 1 v j (ints (pick P k))) ∧ Below (w.alloc (.cells #[.slice A1 n1 c1, .slice A2 n2 c2] 32)).heap.size (w.alloc (.cells #[.slice A1 n1 c1, .slice A2 n2 c2] 32)) wr)
      case atStart => exact ⟨0, 0, by omega, rfl, Lib.hid rfl, Nat.le_refl _, HO, HB3.out⟩
      case round =>
        clear HO HB3
        obtain ⟨k, j, hk, rfl, hj, hjk, ho, hb⟩ := hrel
        obtain ⟨B, x0, x1⟩ := BX.out _ hb
        have hz4 := HZ4.out
        go_wp2_with fail
        refine (SZ.out _ B).mono ?_
        rintro e w4 ⟨rfl, b4⟩
        have hb4 := hb.trans (b4.mono hb.size)
        have O4 := Lib.hid (own_below ho.out b4)
        obtain ⟨B4, y0, y1⟩ := BX.out _ hb4
        clear x0 x1
        by_cases hlt : k < z
        · go_wp2_with fail
          refine (AC.out k hlt _ B4).mono ?_
          rintro e w5 ⟨v5, rfl, o5, b5⟩
          rw [SL.out k] at o5
          obtain ⟨A5, c5, rfl, _, _⟩ := own_form o5
          obtain ⟨f5, om5, _, _⟩ := mem_ints (l := stL s.vars k) (by rw [SL.out]; exact o5) (by rw [SL.out]; have := HN.out; unfold maxLen; omega)
          rw [SL.out k] at om5
          have hb5 := hb4.trans (b5.mono hb4.size)
          have O5 := Lib.hid (own_below O4.out b5)
          obtain ⟨B5, z0, z1⟩ := BX.out _ hb5
          have CV := Lib.hid (VC.out k w5 A5 n1 c5 B5 (Mem.own_rd om5))
          have HV := HP.out k
          generalize valB l (stL s.vars k) = v at HV CV
          clear o5 om5 y0 y1
          by_cases hv : v = 1
          · subst hv
            have NX := Lib.hid (pick_yes (P := P) (Nat.le_refl k) (fun x a b => by omega) (HV.trans (decide_eq_true rfl)))
            clear HV
            go_wp2_with fail
            refine (CV.out).mono ?_
            rintro e w6 ⟨rfl, b6⟩
            have hb6 := Lib.hid (hb5.trans (b6.mono hb5.size))
            have O6 := Lib.hid (own_below O5.out b6)
            have hs6 : w.heap.size + 1 ≤ w6.heap.size := by have := hb6.out.size; rw [World.size_alloc] at this; exact this
            have HS6 := Lib.hid hs6
            clear hs6
            go_wp2_with (first
              | (at_builtin; refine app_int_at rfl _ _ rfl (w.heap.size + 1) _ j _ _ _ rfl (O6.out.alloc _) rfl (World.cell?_alloc_at _ _ _ _ (by simp)) (by omega) (by have := HS6.out; simp; omega) ?_; intro v' w7 ho7 hb7))
            go_roundg (z - (k + 1))
            case measure => omega
            case rel =>
              refine ⟨k + 1, j + 1, by omega, by go_num, by rw [NX.out, List.length_append]; exact Lib.hid (by rw [hj.out]; rfl), by omega, by rw [NX.out]; exact Lib.hid ho7, (hb6.out.alloc hb6.out.size _).trans (hb7.mono (by rw [World.size_alloc]; exact Nat.le_refl _))⟩
          · have hv1 : (v == 1) = false := by simp [hv]
            have NX := Lib.hid (pick_gap (P := P) (n := k) (m := k + 1) (by omega) (fun x a b => by rw [show x = k by omega]; exact HV.trans (decide_eq_false hv)))
            clear HV
            go_wp2_with fail
            refine (CV.out).mono ?_
            rintro e w6 ⟨rfl, b6⟩
            have hb6 := Lib.hid (hb5.trans (b6.mono hb5.size))
            have O6 := Lib.hid (own_below O5.out b6)
            go_wp2
            go_roundg (z - (k + 1))
            case measure => omega
            case rel => exact ⟨k + 1, j, by omega, by go_num, by rw [NX.out]; exact hj, by omega, by rw [NX.out]; exact O6, hb6.out⟩
        · obtain rfl : k = z := by omega
          have O := O4.out
          rw [hj.out, ← E.out] at O
          have O := Lib.hid O
          have HF : Hid (F.length ≤ maxLen) := Lib.hid (by rw [E.out]; have := pick_len P k; unfold maxLen; omega)
          go_wp2
          go_ret
          exact givesL_of ⟨_, rfl, own_lower O.out (by omega), B4⟩ HF.out
end Go.Proofs.YtfgjogmgcamfdaaGreatDoor
