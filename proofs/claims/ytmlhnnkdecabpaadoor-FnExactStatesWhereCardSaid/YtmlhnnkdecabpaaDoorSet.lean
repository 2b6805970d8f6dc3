/- Sets of states, of the program and of the model. -/
import Derived.Test.YtmlhnnkdecabpaaDoorNum
import Derived.Test.YtmlhnnkdecabpaaDoorSysC
import Derived.Test.YtmlhnnkdecabpaaDoorSysZ
import Derived.Deep.QuietTactic
import Derived.BigQuiet
namespace Go.Proofs.YtmlhnnkdecabpaaDoor
open Go.RowKit

theorem sizeB_bd {s : Sy} (h : sysB s = true) : 1 ≤ sizeB s ∧ sizeB s ≤ 400 := by
  have ok := sysOk_of h
  exact ⟨(prod_bd (l := s.vars) (k := s.vars.length) (allTo_true.2 fun i hi => ok.vars i hi)).1, ok.size⟩

theorem setValid_impl (s : Sy) (l : List Int) (A1 : Option Addr) (n1 c1 : Nat) (A2 : Option Addr) (n2 c2 : Nat) (A3 : Option Addr) (n3 c3 : Nat) (w : World) (h1 : Mem.rd w w.heap.size [.slice A1 n1 c1] s.vars) (h2 : Mem.rd w w.heap.size [.slice A2 n2 c2] s.rules) (h3 : Mem.rd w w.heap.size [.slice A3 n3 c3] l) :
    Calls Tryd.prog 57 #[.agg #[.slice A1 n1 c1, .slice A2 n2 c2], .slice A3 n3 c3] w (GivesBool w (setB s l)) := by
  have L1 := Lib.hid (rd_len h1)
  have BX := Lib.hid (sy_box (w := w) (v1 := .slice A1 n1 c1) (v2 := .slice A2 n2 c2))
  have SV := Lib.hid (fun o => sysValid_impl s A1 n1 c1 A2 n2 c2 (w.alloc o) (Mem.rd_on_alloc h1 o) (Mem.rd_on_alloc h2 o))
  unfold setB
  cases hz : sysB s
  · have HZ := Lib.hid hz; clear hz
    go_enter Tryd.func57, Tryd.ntmps57
    go_wp2_with fail
    refine (SV.out _).mono ?_
    rintro e w2 ⟨rfl, b2⟩
    rw [HZ.out]
    go_wp2
    go_ret
    exact ⟨rfl, below_call b2⟩
  · have ok := sys_ok hz
    have SB := Lib.hid (sizeB_bd hz)
    have HZ := Lib.hid hz; clear hz
    rw [L1.out] at ok
    obtain ⟨⟨_, g2, _⟩, hv, _⟩ := ok
    have HV := Lib.hid hv; clear hv
    go_enter Tryd.func57, Tryd.ntmps57
    go_wp2_with fail
    refine (SV.out _).mono ?_
    rintro e w2 ⟨rfl, b2⟩
    rw [HZ.out]
    obtain ⟨B2, x0, x1⟩ := BX.out _ b2
    go_wp2_with fail
    refine (size_any s A1 n1 c1 A2 n2 c2 w2 (Mem.rd_on h1 B2) g2 HV.out).mono ?_
    rintro e w3 ⟨rfl, b3⟩
    have B3 := B2.trans (b3.mono B2.size)
    go_wp2_with fail
    refine (areVariables_any A3 n3 c3 l (sizeB s) w3 (Mem.rd_on h3 B3) (by have := SB.out; omega) (by have := SB.out; omega)).mono ?_
    rintro e w4 ⟨rfl, b4⟩
    go_wp2
    go_ret
    exact ⟨by simp, B3.trans (b4.mono B3.size)⟩

set_option maxRecDepth 100000 in
set_option maxHeartbeats 4000000 in
theorem setValid_spec (s : Sy) (l : List Int) (A1 : Option Addr) (n1 c1 : Nat) (A2 : Option Addr) (n2 c2 : Nat) (A3 : Option Addr) (n3 c3 : Nat) (w : World) (h1 : Mem.rd w w.heap.size [.slice A1 n1 c1] s.vars) (h2 : Mem.rd w w.heap.size [.slice A2 n2 c2] s.rules) (h3 : Mem.rd w w.heap.size [.slice A3 n3 c3] l) :
    Calls Tryd.prog 52 #[.agg #[.slice A1 n1 c1, .slice A2 n2 c2], .slice A3 n3 c3] w (GivesBool w (setB s l)) := by
  have m3 := rd_max h3
  unfold maxLen at m3
  have L3 := rd_len h3
  have SZ := Lib.hid (fun o => sizeOf_spec s A1 n1 c1 A2 n2 c2 (w.alloc o) (Mem.rd_on_alloc h1 o) (Mem.rd_on_alloc h2 o))
  obtain ⟨z, hz⟩ : ∃ z, z = sizeOf s := ⟨_, rfl⟩
  have hzb : 0 ≤ z ∧ z ≤ 400 := by
    rw [hz]; unfold sizeOf
    by_cases q : sysB s = true
    · rw [if_pos q]; have := sizeB_bd q; omega
    · rw [if_neg q]; omega
  have E : Hid (setB s l = (allTo (ascOk l z) n3 && decide (0 < z))) := Lib.hid (by
    unfold setB
    rw [hz]; unfold sizeOf
    cases q : sysB s
    · simp
    · have := sizeB_bd q
      simp only [if_true]
      rw [decide_eq_true (show 0 < sizeB s by omega), ← L3]
      simp [setsB])
  have HZB := Lib.hid hzb
  rw [← hz] at SZ
  clear hz L3
  have h3' := (rd_ints.1 h3).2
  have wv : IntKind.i64.wrap (z - 1) = z - 1 := IntWalk.i64_in _ (by omega)
  clear hzb
  go_enter Tryd.func52, Tryd.ntmps52
  go_wp2_with fail
  refine (SZ.out _).mono ?_
  rintro e w2 ⟨rfl, b2⟩
  have B2 := below_call b2
  go_wp2
  go_loopg [6] n3 (fun m i wr => ∃ k : Nat, k + m = n3 ∧ i = .int .i64 k ∧ Hid (allTo (ascOk l z) k = true) ∧ Below w.heap.size w wr)
  case atStart => exact ⟨0, by omega, rfl, Lib.hid rfl, B2⟩
  case round =>
    clear B2
    obtain ⟨k, hk, rfl, ha, hb⟩ := hrel
    by_cases hlt : k < n3
    · obtain ⟨ad', rfl, hbl', hc'⟩ := (h3'.below hb).int hlt
      have hsp := asc_spec ha.out
      cases q1 : inB (ix l k) 0 (z - 1)
      · have HF : Hid (setB s l = false) := Lib.hid (by rw [E.out, allTo_false (f := ascOk l z) hlt (by rw [hsp, q1]; rfl)]; rfl)
        clear hsp
        have Q1 := Lib.hid q1; clear q1
        go_wp2
        go_quiet ((go_at_call 70; exact Calls.quiet_of_same ((l1In_any _ _ _ _).mono fun _ _ h => ⟨h.1.trans (by rw [Q1.out]), h.2.symm⟩)))
        go_wp2
        go_ret
        exact ⟨(congrArg (fun b => Ending.returned (.bool b)) HF.out).symm, hb.trans ⟨rfl, rfl, rfl, Nat.le_refl _, fun _ _ => rfl⟩⟩
      have Q1 := Lib.hid q1
      by_cases k0 : k = 0
      · have hasc : ascOk l z k = true := by rw [hsp, q1, decide_eq_true k0]; rfl
        have kz' : ¬ (0 : Int) < (k : Int) := by omega
        have kd : decide ((0 : Int) < (k : Int)) = false := decide_eq_false kz'
        have kd' : decide (0 < k) = false := decide_eq_false (by omega)
        clear q1 hsp k0
        have HA : Hid (allTo (ascOk l z) (k + 1) = true) := Lib.hid (by show (allTo (ascOk l z) k && ascOk l z k) = true; rw [ha.out, hasc]; rfl)
        clear hasc
        go_wp2
        go_quiet ((go_at_call 70; exact Calls.quiet_of_same ((l1In_any _ _ _ _).mono fun _ _ h => ⟨h.1.trans (by rw [Q1.out]), h.2.symm⟩)))
        go_wp2
        go_roundg (n3 - (k + 1))
        case measure => omega
        case rel => exact ⟨k + 1, by omega, by go_num, HA, hb.trans ⟨rfl, rfl, rfl, Nat.le_refl _, fun _ _ => rfl⟩⟩
      · obtain ⟨j, hj⟩ : ∃ j, j + 1 = k := ⟨k - 1, by omega⟩
        obtain ⟨_, he, _, hcj⟩ := (h3'.below hb).int (show j < n3 by omega)
        injection he with he
        subst he
        have kp : (0 : Int) < (k : Int) := by omega
        have kp' : 0 < k := by omega
        have wk : IntKind.i64.wrap ((k : Int) - 1) = (j : Int) := by rw [show (k : Int) - 1 = (j : Int) by omega]; exact IntWalk.i64_in _ (by omega)
        have hjn : (j : Int) < n3 := by omega
        have hsp : ascOk l z k = (inB (ix l k) 0 (z - 1) && (decide (k = 0) || decide (ix l j < ix l k))) := by rw [hsp, ← hj]; rfl
        clear k0 hj
        cases q2 : decide (ix l j < ix l k)
        · have hle : ix l k ≤ ix l j := by simpa using q2
          have HF : Hid (setB s l = false) := Lib.hid (by rw [E.out, allTo_false (f := ascOk l z) hlt (by rw [hsp, q1, q2, decide_eq_false (show ¬ k = 0 by omega)]; rfl)]; rfl)
          clear hsp q1 q2
          go_wp2
          go_quiet ((go_at_call 70; exact Calls.quiet_of_same ((l1In_any _ _ _ _).mono fun _ _ h => ⟨h.1.trans (by rw [Q1.out]), h.2.symm⟩)))
          go_wp2
          go_ret
          exact ⟨(congrArg (fun b => Ending.returned (.bool b)) HF.out).symm, hb.trans ⟨rfl, rfl, rfl, Nat.le_refl _, fun _ _ => rfl⟩⟩
        · have hle : ¬ ix l k ≤ ix l j := by simp at q2; omega
          have hle' : decide (ix l k ≤ ix l j) = false := decide_eq_false hle
          have HA : Hid (allTo (ascOk l z) (k + 1) = true) := Lib.hid (by show (allTo (ascOk l z) k && ascOk l z k) = true; rw [ha.out, hsp, q1, q2]; simp)
          clear hsp q1 q2
          go_wp2
          go_quiet ((go_at_call 70; exact Calls.quiet_of_same ((l1In_any _ _ _ _).mono fun _ _ h => ⟨h.1.trans (by rw [Q1.out]), h.2.symm⟩)))
          go_wp2
          go_roundg (n3 - (k + 1))
          case measure => omega
          case rel => exact ⟨k + 1, by omega, by go_num, HA, hb.trans ⟨rfl, rfl, rfl, Nat.le_refl _, fun _ _ => rfl⟩⟩
    · obtain rfl : k = n3 := by omega
      have HE : Hid (setB s l = decide (0 < z)) := Lib.hid (by rw [E.out, ha.out]; rfl)
      by_cases q : 0 < z
      · have HF : Hid (setB s l = true) := Lib.hid (HE.out.trans (decide_eq_true q))
        go_wp2
        go_ret
        exact ⟨(congrArg (fun b => Ending.returned (.bool b)) HF.out).symm, hb⟩
      · have HF : Hid (setB s l = false) := Lib.hid (HE.out.trans (decide_eq_false q))
        go_wp2
        go_ret
        exact ⟨(congrArg (fun b => Ending.returned (.bool b)) HF.out).symm, hb⟩
end Go.Proofs.YtmlhnnkdecabpaaDoor
