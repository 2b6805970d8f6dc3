/- The states in which an expression is true, of the program. -/
import Derived.Test.YtfgjogmgcamfdaaGreatDoorSysE
import Derived.Test.YtfgjogmgcamfdaaGreatDoorSysB
import Derived.Test.YtfgjogmgcamfdaaGreatDoorWl
import Derived.Test.YtfgjogmgcamfdaaGreatDoorAtS
import Derived.Test.YtfgjogmgcamfdaaGreatDoorSet
namespace Go.Proofs.YtfgjogmgcamfdaaGreatDoor
open Go.RowKit

set_option maxRecDepth 100000 in
set_option maxHeartbeats 2000000 in
theorem hasTruth_any (s : Sy) (l : List Tm) (A1 : Option Addr) (n1 c1 : Nat) (A2 : Option Addr) (n2 c2 : Nat) (A3 : Option Addr) (n3 c3 : Nat) (w : World) (h1 : Mem.rd w w.heap.size [.slice A1 n1 c1] s.vars) (h2 : Mem.rd w w.heap.size [.slice A2 n2 c2] s.rules) (h3 : Mem.rd w w.heap.size [.slice A3 n3 c3] l) :
    Calls Tryz.prog 49 #[.agg #[.slice A1 n1 c1, .slice A2 n2 c2], .slice A3 n3 c3] w (GivesBool w (sysB s && kindB l s.vars.length 2)) := by
  have BX := Lib.hid (sy_box (w := w) (v1 := .slice A1 n1 c1) (v2 := .slice A2 n2 c2))
  have SV := Lib.hid (fun o => sysValid_impl s A1 n1 c1 A2 n2 c2 (w.alloc o) (Mem.rd_on_alloc h1 o) (Mem.rd_on_alloc h2 o))
  have KC := Lib.hid (fun W (B : Below w.heap.size w W) => isOfKind_any A3 n3 c3 l n1 2 W (Mem.rd_on h3 B))
  rw [rd_len h1]
  cases hz : sysB s
  · have HZ := Lib.hid hz; clear hz
    go_enter Tryz.func49, Tryz.ntmps49
    go_wp2_with fail
    refine (SV.out _).mono ?_
    rintro e w2 ⟨rfl, b2⟩
    rw [HZ.out]
    go_wp2
    go_ret
    exact ⟨rfl, below_call b2⟩
  · have HZ := Lib.hid hz; clear hz
    go_enter Tryz.func49, Tryz.ntmps49
    go_wp2_with fail
    refine (SV.out _).mono ?_
    rintro e w2 ⟨rfl, b2⟩
    rw [HZ.out]
    obtain ⟨B2, x0, x1⟩ := BX.out _ b2
    go_wp2_with fail
    refine (KC.out _ B2).mono ?_
    rintro e w3 ⟨rfl, b3⟩
    go_wp2
    go_ret
    exact ⟨by simp, B2.trans (b3.mono B2.size)⟩
end Go.Proofs.YtfgjogmgcamfdaaGreatDoor
namespace Go.Proofs.YtfgjogmgcamfdaaGreatDoor
open Go.RowKit

def whP (s : Sy) (l : List Tm) : Nat → Bool := fun n => decide (valB l (stL s.vars n) = 1)
/-- The numbers of a set below k. -/
def cutP (P : Nat → Bool) (k : Nat) : Nat → Bool := fun x => P x && decide (x < k)
theorem cut_zero (P : Nat → Bool) : cutP P 0 = fun _ => false := by funext x; simp [cutP]
theorem cut_yes {P : Nat → Bool} {k : Nat} (h : P k = true) : addP (cutP P k) k = cutP P (k + 1) := by
  funext x
  unfold addP cutP
  by_cases e : x = k
  · subst e; simp [h]
  · rw [decide_eq_false e, Bool.or_false]
    congr 1
    by_cases q : x < k
    · rw [decide_eq_true q, decide_eq_true (by omega)]
    · rw [decide_eq_false q, decide_eq_false (by omega)]
theorem cut_no {P : Nat → Bool} {k : Nat} (h : P k = false) : cutP P (k + 1) = cutP P k := by
  funext x
  unfold cutP
  by_cases e : x = k
  · subst e; rw [h]; rfl
  · congr 1
    by_cases q : x < k
    · rw [decide_eq_true q, decide_eq_true (by omega)]
    · rw [decide_eq_false q, decide_eq_false (by omega)]
theorem cut_pick {P : Nat → Bool} {z m : Nat} (h : z ≤ m) : pick (cutP P z) m = pick P z := by
  rw [pick_gap h fun x a b => by unfold cutP; rw [decide_eq_false (by omega), Bool.and_false]]
  exact pick_congr fun x hx => by unfold cutP; rw [decide_eq_true hx, Bool.and_true]
def whereB (s : Sy) (l : List Tm) : List Int := if sysB s && kindB l s.vars.length 2 then pick (whP s l) (sizeB s).toNat else []
theorem whereB_len (s : Sy) (l : List Tm) : (whereB s l).length ≤ 1000000 := by
  unfold whereB
  cases hz : sysB s
  · simp
  · have := sizeB_bd hz
    split
    · exact Nat.le_trans (pick_len _ _) (by omega)
    · simp

/-- The boxes of 'where': a system, a zero. -/
def whW (w : World) (a b : Value) : World :=
  (w.alloc (.cells #[a, b] 32)).alloc (.cells #[.int .u64 0, .int .u64 0, .int .u64 0, .int .u64 0, .int .u64 0, .int .u64 0, .int .u64 0] 61)
theorem whW_size (w : World) (a b : Value) : (whW w a b).heap.size = w.heap.size + 2 := by unfold whW; simp
theorem whW_box {w : World} {a b : Value} {W : World} (hW : Below (w.heap.size + 2) (whW w a b) W) :
    Below w.heap.size w W ∧ (W.cell? ⟨w.heap.size, 0, none⟩ = some a ∧ W.cell? ⟨w.heap.size, 1, none⟩ = some b) ∧
    Blk W (w.heap.size + 1) 61 [.int .u64 0, .int .u64 0, .int .u64 0, .int .u64 0, .int .u64 0, .int .u64 0, .int .u64 0] ∧ w.heap.size + 2 ≤ W.heap.size := by
  have hs := hW.size
  rw [whW_size] at hs
  have k0 : Blk (whW w a b) w.heap.size 32 [a, b] := (Blk.new w _ _).alloc _
  have k2 : Blk (whW w a b) (w.heap.size + 1) 61 [.int .u64 0, .int .u64 0, .int .u64 0, .int .u64 0, .int .u64 0, .int .u64 0, .int .u64 0] := by
    have := Blk.new (w.alloc (.cells #[a, b] 32)) #[.int .u64 0, .int .u64 0, .int .u64 0, .int .u64 0, .int .u64 0, .int .u64 0, .int .u64 0] 61
    rw [World.size_alloc] at this
    exact this
  have j0 := k0.below hW (by omega)
  exact ⟨(((Below.refl w.heap.size w).alloc (Nat.le_refl _) _).alloc (by simp) _).trans (hW.mono (by omega)), ⟨j0.cell 0, j0.cell 1⟩, k2.below hW (by omega), by omega⟩
theorem wsC_zero : wsC (fun _ => false) = [.int .u64 0, .int .u64 0, .int .u64 0, .int .u64 0, .int .u64 0, .int .u64 0, .int .u64 0] := by
  unfold wsC
  rw [wd_none, wd_none, wd_none, wd_none, wd_none, wd_none, wd_none]; rfl

set_option maxRecDepth 100000 in
set_option maxHeartbeats 4000000 in
theorem where_any (s : Sy) (l : List Tm) (z : Nat) (A1 : Option Addr) (n1 c1 : Nat) (A2 : Option Addr) (n2 c2 : Nat) (A3 : Option Addr) (n3 c3 : Nat) (w : World) (h1 : Mem.rd w w.heap.size [.slice A1 n1 c1] s.vars) (h3 : Mem.rd w w.heap.size [.slice A3 n3 c3] l)
    (ok : SysOk s) (hk : ExprOk l s.vars.length) (hz : (z : Int) = sizeB s) (hz4 : z ≤ 400) :
    Calls Tryz.prog 51 #[.agg #[.slice A1 n1 c1, .slice A2 n2 c2], .slice A3 n3 c3] w (GivesV w (wsV (cutP (whP s l) z))) := by
  have L1 := rd_len h1
  have L3 := rd_len h3
  have h5 : 1 ≤ n1 ∧ n1 ≤ 5 := by have := ok.hi; have := ok.lo; omega
  obtain ⟨ks, hks⟩ := hk.ks
  have c_lo := hk.lo
  have c_hi := hk.hi
  rw [L3] at hks c_lo c_hi
  have SC := Lib.hid (fun W (B : Below w.heap.size w W) => size_any s A1 n1 c1 A2 n2 c2 W (Mem.rd_on h1 B) h5.2 (allTo_true.2 fun k hk => ok.vars k (by omega)))
  rw [← hz] at SC
  have SL := Lib.hid (fun k => (stL_len s.vars k).trans L1)
  have AC := Lib.hid (fun k (hk : k < z) W (B : Below w.heap.size w W) => show Calls Tryz.prog 90 #[.agg #[.slice A1 n1 c1, .slice A2 n2 c2], .int .i64 (k : Int)] W (GivesV W (.agg #[.int .i64 (ix (stL s.vars k) 0), .int .i64 (ix (stL s.vars k) 1), .int .i64 (ix (stL s.vars k) 2), .int .i64 (ix (stL s.vars k) 3), .int .i64 (ix (stL s.vars k) 4), .int .i64 n1])) from by
    have := at_any s k A1 n1 c1 A2 n2 c2 W (Mem.rd_on h1 B) ok (by omega) (by omega)
    unfold ptV at this
    rw [SL.out] at this
    exact this)
  have VC := Lib.hid (fun k W g T (B : Below w.heap.size w W) (kO : Blk W g T (ptC (stL s.vars k))) => show Calls Tryz.prog 91 #[.slice A3 n3 c3, .slice (some ⟨g, 0, none⟩) n1 5] W (GivesInt W (valB l (stL s.vars k))) from by
    have := valueIn_any A3 n3 c3 (some ⟨g, 0, none⟩) n1 5 l (stL s.vars k) ks W (rd_tms.1 (Mem.rd_on h3 B)).2 (by have := kO.pt (by rw [SL.out]; exact h5.2); rw [SL.out] at this; exact this) c_hi c_lo (sys_nums ok (stL_has _ ok.vars)) (by rw [stL_len]; exact hks)
    unfold valB
    rw [L3]
    exact this)
  obtain ⟨P, hP⟩ : ∃ P, P = whP s l := ⟨_, rfl⟩
  have HP := Lib.hid (fun k => show P k = decide (valB l (stL s.vars k) = 1) by rw [hP]; rfl)
  have WC := Lib.hid (fun k (hk : k < z) W => with_any (cutP P k) k (by omega) W)
  rw [← hP]
  clear hP L1 L3 c_lo c_hi hks hz hk
  have H5 := Lib.hid h5
  have BX := Lib.hid (fun W hW => whW_box (w := w) (a := .slice A1 n1 c1) (b := .slice A2 n2 c2) (W := W) hW)
  have M0 : Blk ((whW w (.slice A1 n1 c1) (.slice A2 n2 c2)).alloc (.cells #[.int .u64 0, .int .u64 0, .int .u64 0, .int .u64 0, .int .u64 0, .int .u64 0, .int .u64 0] 61)) (w.heap.size + 2) 61 (wsC (cutP P 0)) := by
    have := Blk.new (whW w (.slice A1 n1 c1) (.slice A2 n2 c2)) #[.int .u64 0, .int .u64 0, .int .u64 0, .int .u64 0, .int .u64 0, .int .u64 0, .int .u64 0] 61
    rw [whW_size] at this
    rw [cut_zero, wsC_zero]
    exact this
  have W0 : Below (w.heap.size + 2) (whW w (.slice A1 n1 c1) (.slice A2 n2 c2)) ((whW w (.slice A1 n1 c1) (.slice A2 n2 c2)).alloc (.cells #[.int .u64 0, .int .u64 0, .int .u64 0, .int .u64 0, .int .u64 0, .int .u64 0, .int .u64 0] 61)) := by
    have := below_alloc (whW w (.slice A1 n1 c1) (.slice A2 n2 c2)) (.cells #[.int .u64 0, .int .u64 0, .int .u64 0, .int .u64 0, .int .u64 0, .int .u64 0, .int .u64 0] 61)
    rw [whW_size] at this
    exact this
  have M0 := Lib.hid M0
  have W0 := Lib.hid W0
  clear h5
  unfold whW at M0 W0
  go_enter Tryz.func51, Tryz.ntmps51
  go_wp2_with fail
  have B0 := (BX.out _ W0.out).1
  refine (SC.out _ B0).mono ?_
  rintro e w2 ⟨rfl, b2⟩
  have M2 := Lib.hid (M0.out.below b2 M0.out.lt)
  have W2 := Lib.hid (W0.out.trans (b2.mono (Nat.le_of_lt M0.out.lt)))
  clear B0
  go_wp2
  go_loopg [6, 7, 10] z (fun m i6 i7 i wr => ∃ k : Nat, k + m = z ∧ i = .int .i64 k ∧ Hid (Blk wr (w.heap.size + 2) 61 (wsC (cutP P k))) ∧ Below (w.heap.size + 2) (whW w (.slice A1 n1 c1) (.slice A2 n2 c2)) wr)
  case atStart => exact ⟨0, by omega, rfl, M2, W2.out⟩
  case round =>
    clear M0 W0 M2 W2
    obtain ⟨k, hk, rfl, hm, hb⟩ := hrel
    obtain ⟨B, ⟨x0, x1⟩, kZ, lx⟩ := BX.out _ hb
    by_cases hlt : k < z
    · have HKM := hm
      clear kZ
      go_wp2_with fail
      refine (AC.out k hlt wr B).mono ?_
      rintro e w4 ⟨rfl, b4⟩
      have hb4 := hb.trans (b4.mono lx)
      obtain ⟨B4, ⟨y0, y1⟩, kZ, lx4⟩ := BX.out _ hb4
      have M4 := Lib.hid (HKM.out.below b4 HKM.out.lt)
      clear kZ x0 x1
      have KP : Hid (Blk (w4.alloc (.cells #[.int .i64 (ix (stL s.vars k) 0), .int .i64 (ix (stL s.vars k) 1), .int .i64 (ix (stL s.vars k) 2), .int .i64 (ix (stL s.vars k) 3), .int .i64 (ix (stL s.vars k) 4), .int .i64 n1] 127)) w4.heap.size 127 (ptC (stL s.vars k))) := Lib.hid (by
        have := Blk.new w4 (ptC (stL s.vars k)).toArray 127
        unfold ptC at this
        rw [SL.out] at this
        unfold ptC
        rw [SL.out]
        exact this)
      have HSL := fun W => run_pt_slice ⟨w4.heap.size, 0, none⟩ n1 H5.out.2 W
      have CV := Lib.hid (VC.out k _ _ _ (B4.alloc B4.size _) KP.out)
      have HV := HP.out k
      generalize valB l (stL s.vars k) = v at HV CV
      by_cases hv : v = 1
      · subst hv
        have NX := Lib.hid (cut_yes (P := P) (k := k) (HV.trans (decide_eq_true rfl)))
        have WA := Lib.hid (WC.out k hlt)
        clear HV
        generalize cutP P k = Q at *
        unfold wsV at WA
        go_wp2_with fail
        refine (CV.out).mono ?_
        rintro e w6 ⟨rfl, b6⟩
        have b46 := below_call b6
        have M6 := Lib.hid (M4.out.below b46 M4.out.lt)
        obtain ⟨q0, q1, q2, q3, q4, q5, q6⟩ := ws_cells M6.out
        go_wp2_with fail
        refine (WA.out _).mono ?_
        rintro e w8 ⟨rfl, b8⟩
        have M8 := Lib.hid (M6.out.below b8 M6.out.lt)
        have hb8 := Lib.hid ((hb4.trans (b46.mono lx4)).trans (b8.mono (Nat.le_trans lx4 b46.size)))
        obtain ⟨c0, c1, c2, c3, c4, c5, c6⟩ := ws_cells M8.out
        obtain ⟨f0, f1, f2, f3, f4, f5, f6⟩ := seven_frozen M8.out
        clear q0 q1 q2 q3 q4 q5 q6
        go_wp2
        go_roundg (z - (k + 1))
        case measure => omega
        case rel =>
          refine ⟨k + 1, by omega, by go_num, Lib.hid ?_, ?_⟩
          · rw [← NX.out]
            exact seven_set M8.out
          · exact ((((((hb8.out.setCell (by show w.heap.size + 2 ≤ w.heap.size + 1 + 1; omega) _).setCell (by show w.heap.size + 2 ≤ w.heap.size + 1 + 1; omega) _).setCell (by show w.heap.size + 2 ≤ w.heap.size + 1 + 1; omega) _).setCell (by show w.heap.size + 2 ≤ w.heap.size + 1 + 1; omega) _).setCell (by show w.heap.size + 2 ≤ w.heap.size + 1 + 1; omega) _).setCell (by show w.heap.size + 2 ≤ w.heap.size + 1 + 1; omega) _).setCell (by show w.heap.size + 2 ≤ w.heap.size + 1 + 1; omega) _
      · have hv1 : (v == 1) = false := by simp [hv]
        have NX := Lib.hid (cut_no (P := P) (k := k) (HV.trans (decide_eq_false hv)))
        clear HV
        go_wp2_with fail
        refine (CV.out).mono ?_
        rintro e w6 ⟨rfl, b6⟩
        have b46 := below_call b6
        have M6 := Lib.hid (M4.out.below b46 M4.out.lt)
        have hb6 := Lib.hid (hb4.trans (b46.mono lx4))
        go_wp2
        go_roundg (z - (k + 1))
        case measure => omega
        case rel => exact ⟨k + 1, by omega, by go_num, by rw [NX.out]; exact M6, hb6.out⟩
    · obtain rfl : k = z := by omega
      obtain ⟨q0, q1, q2, q3, q4, q5, q6⟩ := ws_cells hm.out
      obtain ⟨y0, y1, y2, y3, y4, y5, y6⟩ := seven_cells kZ
      obtain ⟨f0, f1, f2, f3, f4, f5, f6⟩ := seven_frozen kZ
      generalize cutP P k = Q at *
      clear kZ
      go_wp2_with fail
      refine bodyPost_ret (v := wsV Q) (by simp [results, Tryz.results51, go_sem, y0, y1, y2, y3, y4, y5, y6, wsV]) rfl ⟨rfl, ?_⟩
      exact ((((((B.setCell (by show w.heap.size ≤ w.heap.size + 1; omega) _).setCell (by show w.heap.size ≤ w.heap.size + 1; omega) _).setCell (by show w.heap.size ≤ w.heap.size + 1; omega) _).setCell (by show w.heap.size ≤ w.heap.size + 1; omega) _).setCell (by show w.heap.size ≤ w.heap.size + 1; omega) _).setCell (by show w.heap.size ≤ w.heap.size + 1; omega) _).setCell (by show w.heap.size ≤ w.heap.size + 1; omega) _

end Go.Proofs.YtfgjogmgcamfdaaGreatDoor
