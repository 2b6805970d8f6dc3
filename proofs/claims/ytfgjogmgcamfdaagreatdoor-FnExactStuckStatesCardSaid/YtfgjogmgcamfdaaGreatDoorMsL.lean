/- What a system comes to, of the model. -/
import Derived.Test.YtfgjogmgcamfdaaGreatDoorMs
import Derived.Test.YtfgjogmgcamfdaaGreatDoorPf
import Derived.Test.YtfgjogmgcamfdaaGreatDoorWhS
import Derived.Deep.RegionHeld3
import Derived.Deep.RegionLaw
namespace Go.Proofs.YtfgjogmgcamfdaaGreatDoor
open Go.RowKit

theorem first_list (n : Nat) : memP [(n : Int)] = oneP n := by
  have := mem_snoc [] n
  rw [mem_nil] at this
  exact this

set_option maxRecDepth 100000 in
set_option maxHeartbeats 4000000 in
theorem l5First_any (s : Sy) (z : Nat) (A1 : Option Addr) (n1 c1 : Nat) (A2 : Option Addr) (n2 c2 : Nat) (w : World) (h1 : Mem.rd w w.heap.size [.slice A1 n1 c1] s.vars) (h2 : Mem.rd w w.heap.size [.slice A2 n2 c2] s.rules)
    (hz : sysB s = true) (hzz : (z : Int) = sizeB s) :
    Calls Tryz.prog 72 #[.agg #[.slice A1 n1 c1, .slice A2 n2 c2]] w (GivesMarks w (oneP (firstN s)) z) := by
  have ok := sysOk_of hz
  have hbd := sizeB_bd hz
  have hz4 : z ≤ 400 := by omega
  have BX := Lib.hid (sy_box (w := w) (v1 := .slice A1 n1 c1) (v2 := .slice A2 n2 c2))
  have FC := Lib.hid (fun W (B : Below w.heap.size w W) => first_spec s A1 n1 c1 A2 n2 c2 W (Mem.rd_on h1 B) (Mem.rd_on h2 B))
  have hFB : firstB s = firsts s.vars := by unfold firstB; rw [hz]; rfl
  rw [hFB] at FC
  have FL : Hid ((firsts s.vars).length = n1) := Lib.hid ((firsts_len _).trans (rd_len h1))
  have H5 := Lib.hid (show 1 ≤ n1 ∧ n1 ≤ 5 by have := rd_len h1; have := ok.lo; have := ok.hi; omega)
  have NC := Lib.hid (fun W A n c (B : Below w.heap.size w W) (h : Mem.rd W W.heap.size [.slice A n c] (firsts s.vars)) => l4Number_any s (firsts s.vars) A1 n1 c1 A2 n2 c2 A n c W (Mem.rd_on h1 B) h ok (firsts_has ok))
  rw [(firstN_eq ok).1] at NC
  have hso : sizeOf s = z := by unfold sizeOf; rw [if_pos hz, hzz]
  have SZ := Lib.hid (fun W (B : Below w.heap.size w W) => sizeOf_spec s A1 n1 c1 A2 n2 c2 W (Mem.rd_on h1 B) (Mem.rd_on h2 B))
  rw [hso] at SZ
  have hfl := (firstN_eq ok).2
  have KC := Lib.hid (fun W A c (h : Mem.rd W W.heap.size [.slice A 1 c] [(firstN s : Int)]) => l4Marks_any [(firstN s : Int)] A 1 c z W h (fun k hk => by
    have : k = 0 := by simp at hk; exact hk
    subst this
    show 0 ≤ (firstN s : Int) ∧ (firstN s : Int) < z
    omega) hz4)
  rw [first_list] at KC
  have LT := Lib.hid (fun (W V : World) (B : Below (W.alloc (.cells #[.int .i64 (firstN s)] 3)).heap.size (W.alloc (.cells #[.int .i64 (firstN s)] 3)) V) => show Mem.rd V V.heap.size [.slice (some ⟨W.heap.size, 0, none⟩) 1 1] [(firstN s : Int)] by
    have q : (W.alloc (.cells #[.int .i64 (firstN s)] 3)).ownsRow W.heap.size 3 1 (.slice (some ⟨W.heap.size, 0, none⟩) 1 1) 1 (ints [(firstN s : Int)]) := World.ownsRow_lit (base := W.heap.size) (e := 3) (size := 1) W #[.int .i64 (firstN s)] 1 (Nat.le_refl _) (by unfold maxLen; omega) rfl
    have i : IL (W.alloc (.cells #[.int .i64 (firstN s)] 3)) W.heap.size 3 (.slice (some ⟨W.heap.size, 0, none⟩) 1 1) 1 [(firstN s : Int)] (bl (.slice (some ⟨W.heap.size, 0, none⟩) 1 1)) := ⟨q, rfl⟩
    exact Mem.own_rd ((i.below B).out (by unfold maxLen; omega)).1)
  clear hz hzz hbd hz4 ok hFB hso hfl
  generalize oneP (firstN s) = M at *
  generalize firstN s = N at *
  generalize firsts s.vars = fs at *
  obtain ⟨B0, x0, x1⟩ := BX.out _ (Below.refl _ _)
  have FK := Lib.hid (FC.out (w.alloc (.cells #[.slice A1 n1 c1, .slice A2 n2 c2] 32)).drew ⟨B0.os, B0.tape, B0.output, B0.size, B0.block⟩)
  clear B0
  go_enter Tryz.func72, Tryz.ntmps72
  go_wp2
  go_region_law (first
    | (go_simp; go_at_call 94; refine (FK.out).mono ?_; rintro e w3 ⟨v3, rfl, o3, b3⟩
       rw [FL.out] at o3
       obtain ⟨A3, c3, rfl, _, _⟩ := own_form o3
       obtain ⟨f3, om3, _, _⟩ := mem_ints (l := fs) (by rw [FL.out]; exact o3) (by rw [FL.out]; have := H5.out; unfold maxLen; omega)
       rw [FL.out] at om3
       have b3' : Below (w.alloc (.cells #[.slice A1 n1 c1, .slice A2 n2 c2] 32)).heap.size (w.alloc (.cells #[.slice A1 n1 c1, .slice A2 n2 c2] 32)) w3 := ⟨b3.os, b3.tape, b3.output, b3.size, b3.block⟩
       obtain ⟨B3, y0, y1⟩ := BX.out _ b3'
       have NK := Lib.hid (NC.out w3 A3 n1 c3 B3 (Mem.own_rd om3))
       have HB3 := Lib.hid b3'
       clear om3 o3)
    | (go_simp; go_at_call 93; refine (NK.out).mono ?_; rintro e w4 ⟨rfl, b4⟩
       have HB4 := Lib.hid (HB3.out.trans (b4.mono HB3.out.size))
       have HB4a := Lib.hid (fun o => HB4.out.trans ((below_alloc w4 o).mono HB4.out.size))
       obtain ⟨B4, z0, z1⟩ := BX.out _ HB4.out
       have za0 := fun o => (BX.out _ (HB4a.out o)).2.1
       have za1 := fun o => (BX.out _ (HB4a.out o)).2.2
       clear B4)
    | (go_simp; go_at_call 62; refine (SZ.out w4 (BX.out _ HB4.out).1).mono ?_; rintro e w5 ⟨rfl, b5⟩
       have HB5 := Lib.hid (HB4.out.trans (b5.mono HB4.out.size))
       have HB5a := Lib.hid (fun o => HB5.out.trans ((below_alloc w5 o).mono HB5.out.size))
       have LK := Lib.hid (LT.out w5 _ (Below.refl _ _)))
    | (go_simp; go_at_call 62; refine (SZ.out (w4.alloc _) (BX.out _ (HB4a.out _)).1).mono ?_; rintro e w5 ⟨rfl, b5⟩
       have HB5 := Lib.hid ((HB4a.out _).trans (b5.mono (HB4a.out _).size))
       have LK := Lib.hid (LT.out w4 _ b5))
    | (go_simp; go_at_call 61; refine (KC.out _ _ _ LK.out).mono ?_; rintro e w6 ⟨g6, rfl, m6, l6, b6⟩
       have HB6 : Hid (Below (w.alloc (.cells #[.slice A1 n1 c1, .slice A2 n2 c2] 32)).heap.size (w.alloc (.cells #[.slice A1 n1 c1, .slice A2 n2 c2] 32)) w6) := Lib.hid (by first | exact HB5.out.trans (b6.mono HB5.out.size) | exact (HB5a.out _).trans (b6.mono (HB5a.out _).size))
       have L6 : Hid (w.heap.size ≤ g6) := Lib.hid (by have a := (BX.out _ HB5.out).1.size; first | omega | (simp at l6; omega))
       have M6 := Lib.hid m6
       clear m6 b6))
  all_goals
    go_wp2
    go_ret
    exact ⟨g6, rfl, M6.out, L6.out, (BX.out _ HB6.out).1⟩

set_option maxRecDepth 100000 in
set_option maxHeartbeats 4000000 in
theorem stepsTo_spec (s : Sy) (A1 : Option Addr) (n1 c1 : Nat) (A2 : Option Addr) (n2 c2 : Nat) (w : World) (h1 : Mem.rd w w.heap.size [.slice A1 n1 c1] s.vars) (h2 : Mem.rd w w.heap.size [.slice A2 n2 c2] s.rules) :
    Calls Tryz.prog 33 #[.agg #[.slice A1 n1 c1, .slice A2 n2 c2]] w (GivesL w (stepsB s)) := by
  have BX := Lib.hid (sy_box (w := w) (v1 := .slice A1 n1 c1) (v2 := .slice A2 n2 c2))
  have SV := Lib.hid (fun o => sysValid_spec s A1 n1 c1 A2 n2 c2 (w.alloc o) (Mem.rd_on_alloc h1 o) (Mem.rd_on_alloc h2 o))
  have HL := Lib.hid (stepsB_len s)
  cases hz : sysB s
  · have E : Hid (stepsB s = []) := Lib.hid (by unfold stepsB; rw [hz]; rfl)
    have HZ := Lib.hid hz; clear hz
    go_enter Tryz.func33, Tryz.ntmps33
    go_wp2_with fail
    refine (SV.out _).mono ?_
    rintro e w2 ⟨rfl, b2⟩
    rw [HZ.out]
    go_wp2
    go_ret
    rw [E.out]
    exact ⟨none, 0, 0, [], rfl, own_none _, List.nodup_nil, by simp, below_call b2⟩
  · have ok := sysOk_of hz
    have hbd := sizeB_bd hz
    obtain ⟨z, hzz⟩ : ∃ z : Nat, (z : Int) = sizeB s := ⟨(sizeB s).toNat, by omega⟩
    have hz4 : z ≤ 400 := by omega
    have E : Hid (lsR (dst (rowE (stepsL s z)) (oneP (firstN s)) z z) z = stepsB s) := Lib.hid (by
      unfold stepsB
      rw [hz, if_pos rfl, show (sizeB s).toNat = z by omega]
      exact lsR_congr fun x hx => dst_rows ok _ z hx)
    have TC := Lib.hid (fun W (B : Below w.heap.size w W) => l4Steps_any s z A1 n1 c1 A2 n2 c2 W (Mem.rd_on h1 B) (Mem.rd_on h2 B) hz hzz hz4)
    have FC := Lib.hid (fun W (B : Below w.heap.size w W) => l5First_any s z A1 n1 c1 A2 n2 c2 W (Mem.rd_on h1 B) (Mem.rd_on h2 B) hz hzz)
    have SC := Lib.hid (fun A c g W h hM => l5Steps_any (stepsL s z) (oneP (firstN s)) A z c g W h hM hz4 (by omega) (steps_range ok hzz))
    have HLN := Lib.hid (stepsL_len s z)
    rw [E.out] at SC
    generalize oneP (firstN s) = M at *
    generalize stepsL s z = L at *
    have HZ := Lib.hid hz; clear hz ok hbd hzz hz4 E
    go_enter Tryz.func33, Tryz.ntmps33
    go_wp2_with fail
    refine (SV.out _).mono ?_
    rintro e w2 ⟨rfl, b2⟩
    rw [HZ.out]
    obtain ⟨B2, x0, x1⟩ := BX.out _ b2
    have TK := Lib.hid (TC.out w2.drew ⟨B2.os, B2.tape, B2.output, B2.size, B2.block⟩)
    have HB2 := Lib.hid b2
    clear b2 B2
    go_wp2
    go_region_law (first
      | (go_simp; go_at_call 60; refine (TK.out).mono ?_; rintro e w3 ⟨A4, n4, c4, rfl, r4, b3⟩
         obtain rfl : n4 = z := (rd_len r4).symm.trans HLN.out
         have b23 : Below w2.heap.size w2 w3 := ⟨b3.os, b3.tape, b3.output, b3.size, b3.block⟩
         have hb3 := HB2.out.trans (b23.mono HB2.out.size)
         obtain ⟨B3, y0, y1⟩ := BX.out _ hb3
         have R4 := Lib.hid r4
         have FK := Lib.hid (FC.out w3 B3)
         clear r4)
      | (go_simp; go_at_call 72; refine (FK.out).mono ?_; rintro e w5 ⟨g5, rfl, m5, l5, b5⟩
         have hb5 := hb3.trans (b5.mono hb3.size)
         have SK := Lib.hid (SC.out A4 c4 g5 w5 (Mem.rd_on R4.out b5) m5)
         have L5 := Lib.hid (BX.out _ hb5).1.size
         clear m5)
      | (go_simp; go_at_call 58; refine (SK.out).mono ?_; rintro e w6 ⟨v6, rfl, o6, b6⟩
         have HB6 := Lib.hid (hb5.trans (b6.mono hb5.size))
         have O6 := Lib.hid o6
         clear o6))
    all_goals
      go_wp2
      go_ret
      exact givesL_of ⟨v6, rfl, own_lower O6.out L5.out, (BX.out _ HB6.out).1⟩ (by have := HL.out; unfold maxLen; omega)

/-- Which of the first k numbers are at least 0. -/
def cutR (l : List Int) (k : Nat) : Nat → Bool := fun x => decide (x < k) && decide (0 ≤ ix l x)
theorem bools_upd (P : Nat → Bool) (b : Bool) {n x : Nat} (h : x < n) : (bools P n).set x (.bool b) = bools (upd P x b) n := by
  apply List.ext_getElem?
  intro j
  rw [List.getElem?_set, bools_len]
  by_cases hj : j < n
  · rw [bools_at _ hj, bools_at _ hj]
    by_cases e : x = j
    · subst e; rw [if_pos rfl, if_pos h, upd_at]
    · rw [if_neg e, upd_other _ _ (fun q => e q.symm)]
  · rw [List.getElem?_eq_none (by rw [bools_len]; omega), List.getElem?_eq_none (by rw [bools_len]; omega)]
    split
    · omega
    · rfl
theorem cutR_succ (l : List Int) (k : Nat) {b : Bool} (hb : b = decide (0 ≤ ix l k)) : upd (cutR l k) k b = cutR l (k + 1) := by
  funext x
  unfold upd cutR
  by_cases e : x = k
  · subst e; rw [if_pos rfl, hb, decide_eq_true (show x < x + 1 by omega), Bool.true_and]
  · rw [if_neg e]
    by_cases q : x < k
    · rw [decide_eq_true q, decide_eq_true (show x < k + 1 by omega)]
    · rw [decide_eq_false q, decide_eq_false (show ¬ x < k + 1 by omega)]

set_option maxRecDepth 100000 in
set_option maxHeartbeats 4000000 in
theorem l5Told_any (l : List Int) (A : Option Addr) (n c : Nat) (w : World) (h : Mem.rd w w.heap.size [.slice A n c] l) (hn : n ≤ 400) :
    Calls Tryz.prog 32 #[.slice A n c] w (GivesMarks w (cutR l n) n) := by
  have HN := Lib.hid hn
  go_enter Tryz.func32, Tryz.ntmps32
  go_wp2_with (first | (at_make; refine wpList_make_full _ rfl _ _ 54 rfl w.heap.size 4 boolRow _ 1 Tryz.underlying54 bool_row.1 bool_row.2.1 bool_row.2.2.1 _ _ _ _ n rfl rfl rfl rfl (by rw [bool_row.2.2.2]; omega) (by unfold maxLen; omega) (Nat.le_refl _) ?_; intro w1 hown hg))
  have hbw := (Below.refl w.heap.size w).grown hg (Nat.le_refl _) (by simp)
  have hblk := (Blk.of_own hown).1
  have hblk : Blk w1 w.heap.size 4 (bools (cutR l 0) n) := by
    have e : cutR l 0 = fun _ => false := by funext x; unfold cutR; rw [decide_eq_false (by omega)]; rfl
    rw [e, ← cat_bools]
    exact made_cat #[.bool false] n ▸ hblk
  have HB0 := Lib.hid hblk
  have HW0 := Lib.hid hbw
  clear hown hg hblk hbw hn
  go_loopg [4] n (fun m i wr => ∃ k : Nat, k + m = n ∧ i = .int .i64 k ∧ Hid (Blk wr w.heap.size 4 (bools (cutR l k) n)) ∧ Hid (Below w.heap.size w wr))
  case atStart => exact ⟨0, by omega, rfl, HB0, HW0⟩
  case round =>
    clear HB0 HW0
    obtain ⟨k, hk, rfl, hP, hb⟩ := hrel
    have hn := HN.out
    by_cases hlt : k < n
    · have hkn : (k : Int) < (n : Int) := by omega
      obtain ⟨adr, e1, hblr, dr⟩ := ((rd_ints.1 (Mem.rd_on h hb.out)).2).int hlt
      subst e1
      have hf := hP.out.frozen k
      have hcx : wr.cell? ⟨w.heap.size, k, none⟩ = some (.bool (cutR l k k)) := by rw [hP.out.cell]; exact bools_at _ hlt
      by_cases h0 : 0 ≤ ix l k
      · have NX := Lib.hid (cutR_succ l k (b := true) (decide_eq_true h0).symm)
        go_wp2
        go_roundg (n - (k + 1))
        case measure => omega
        case rel =>
          refine ⟨k + 1, by omega, by go_num, Lib.hid ?_, Lib.hid (hb.out.setCell (Nat.le_refl _) _)⟩
          rw [← NX.out, ← bools_upd _ _ hlt]
          exact hP.out.set _ _
      · have NX := Lib.hid (cutR_succ l k (b := false) (decide_eq_false h0).symm)
        go_wp2
        go_roundg (n - (k + 1))
        case measure => omega
        case rel =>
          refine ⟨k + 1, by omega, by go_num, Lib.hid ?_, Lib.hid (hb.out.setCell (Nat.le_refl _) _)⟩
          rw [← NX.out, ← bools_upd _ _ hlt]
          exact hP.out.set _ _
    · obtain rfl : k = n := by omega
      go_wp2
      go_ret
      exact ⟨_, rfl, hP.out, Nat.le_refl _, hb.out⟩

theorem told_steps (s : Sy) : pick (cutR (stepsB s) (stepsB s).length) (stepsB s).length = reachB s := by
  unfold reachB stepsB
  cases sysB s
  · rfl
  · rw [if_pos rfl, if_pos rfl, lsR_len]
    refine pick_congr fun x hx => ?_
    unfold cutR
    rw [decide_eq_true hx, Bool.true_and, lsR_ix _ hx]
theorem stepsB_len' (s : Sy) : (stepsB s).length ≤ 400 := by
  unfold stepsB
  cases h : sysB s
  · simp
  · rw [if_pos rfl, lsR_len]; exact size_to h

set_option maxRecDepth 100000 in
set_option maxHeartbeats 4000000 in
theorem reachOf_spec (s : Sy) (A1 : Option Addr) (n1 c1 : Nat) (A2 : Option Addr) (n2 c2 : Nat) (w : World) (h1 : Mem.rd w w.heap.size [.slice A1 n1 c1] s.vars) (h2 : Mem.rd w w.heap.size [.slice A2 n2 c2] s.rules) :
    Calls Tryz.prog 9 #[.agg #[.slice A1 n1 c1, .slice A2 n2 c2]] w (GivesL w (reachB s)) := by
  have BX := Lib.hid (sy_box (w := w) (v1 := .slice A1 n1 c1) (v2 := .slice A2 n2 c2))
  have SC := Lib.hid (fun o => stepsTo_spec s A1 n1 c1 A2 n2 c2 (w.alloc o) (Mem.rd_on_alloc h1 o) (Mem.rd_on_alloc h2 o))
  have HL := Lib.hid (stepsB_len' s)
  have HR := Lib.hid (reachB_len s)
  have E := Lib.hid (told_steps s)
  generalize reachB s = R at *
  go_enter Tryz.func9, Tryz.ntmps9
  go_wp2_with fail
  refine (SC.out _).mono ?_
  rintro e w2 ⟨A2', m2, c2', f2, rfl, o2, _, _, b2⟩
  have L2 := rd_len (Mem.own_rd o2)
  generalize stepsB s = F at *
  subst L2
  have TK := Lib.hid (l5Told_any F A2' F.length c2' w2 (Mem.own_rd o2) HL.out)
  have HB2 := Lib.hid b2
  clear o2 b2
  go_wp2_with fail
  refine (TK.out).mono ?_
  rintro e w3 ⟨g3, rfl, m3, l3, b3⟩
  have LK := l4List_any (cutR F F.length) g3 F.length w3 m3 HL.out
  rw [E.out] at LK
  have LK := Lib.hid LK
  have HB3 := Lib.hid (HB2.out.trans (b3.mono HB2.out.size))
  clear m3 l3 b3
  go_wp2_with fail
  refine (LK.out).mono ?_
  rintro e w4 ⟨v4, rfl, o4, b4⟩
  have HB4 := Lib.hid (HB3.out.trans (b4.mono HB3.out.size))
  have O4 := Lib.hid o4
  clear o4 b4
  go_wp2
  go_ret
  exact givesL_of ⟨v4, rfl, own_lower O4.out (BX.out _ HB3.out).1.size, (BX.out _ HB4.out).1⟩ (by have := HR.out; unfold maxLen; omega)
end Go.Proofs.YtfgjogmgcamfdaaGreatDoor
