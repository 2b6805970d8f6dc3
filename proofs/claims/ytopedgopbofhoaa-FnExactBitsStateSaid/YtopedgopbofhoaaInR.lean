/- Systems: states in range, of the program and of the model. -/
import Derived.Test.YtopedgopbofhoaaSysH
namespace Go.Proofs.Ytopedgopbofhoaa
open Go.RowKit

/-- Whether numbers are values of the variables. -/
def hasB (l : List Vr) (st : List Int) : Bool := decide (st.length = l.length) && allTo (fun i => inB (ix st i) (el l i).low (el l i).high) l.length
def inRangeB (s : Sy) (st : List Int) : Bool := sysB s && hasB s.vars st
theorem hasB_len {l : List Vr} {st : List Int} (h : st.length ≠ l.length) : hasB l st = false := by unfold hasB; rw [decide_eq_false h]; rfl
theorem hasB_all {l : List Vr} {st : List Int} (h : st.length = l.length) : hasB l st = allTo (fun i => inB (ix st i) (el l i).low (el l i).high) l.length := by unfold hasB; rw [decide_eq_true h]; rfl

set_option maxRecDepth 100000 in
set_option maxHeartbeats 2000000 in
theorem hasS_any (s : Sy) (st : List Int) (A1 : Option Addr) (n1 c1 : Nat) (A2 : Option Addr) (n2 c2 : Nat) (A3 : Option Addr) (n3 c3 : Nat) (w : World) (h1 : Mem.rd w w.heap.size [.slice A1 n1 c1] s.vars) (h3 : Mem.rd w w.heap.size [.slice A3 n3 c3] st) :
    Calls Try.prog 31 #[.agg #[.slice A1 n1 c1, .slice A2 n2 c2], .slice A3 n3 c3] w (GivesBool w (hasB s.vars st)) := by
  have m1 := rd_max h1
  have m3 := rd_max h3
  unfold maxLen at m1 m3
  have L1 := rd_len h1
  have L3 := rd_len h3
  have BX := Lib.hid (sy_box (w := w) (v1 := .slice A1 n1 c1) (v2 := .slice A2 n2 c2))
  by_cases g : n3 = n1
  · subst g
    have E := Lib.hid (hasB_all (l := s.vars) (st := st) (by omega))
    rw [L1] at E
    clear L1 L3
    have h3' := (rd_ints.1 h3).2
    go_enter Try.func31, Try.ntmps31
    go_wp2
    go_loopg [16] n3 (fun m i wr => ∃ k : Nat, k + m = n3 ∧ i = .int .i64 k ∧ Hid (allTo (fun i => inB (ix st i) (el s.vars i).low (el s.vars i).high) k = true) ∧ Below w.heap.size w wr)
    case atStart => exact ⟨0, by omega, rfl, Lib.hid rfl, below_alloc _ _⟩
    case round =>
      obtain ⟨k, hk, rfl, ha, hb⟩ := hrel
      by_cases hlt : k < n3
      · obtain ⟨ad, rfl, hbl, d0, d1, d2⟩ := vr_at (Mem.rd_below h1 hb) hlt
        obtain ⟨ad', rfl, hbl', d3⟩ := (h3'.below hb).int hlt
        have HO := Lib.hid (fun W => has_any (el s.vars k) (ix st k) W)
        unfold Vr.v at HO
        have d3' := fun o => cell_alloc (k := k) (Nat.lt_of_lt_of_le hbl' hb.size) d3 o
        have cw : ∀ o, (wr.alloc o).heap.size = wr.heap.size + 1 := fun o => World.size_alloc _ _
        cases hz : inB (ix st k) (el s.vars k).low (el s.vars k).high
        all_goals
          first
            | have HF := Lib.hid (E.out.trans (allTo_false (f := fun i => inB (ix st i) (el s.vars i).low (el s.vars i).high) hlt hz))
            | have hf : Hid (allTo (fun i => inB (ix st i) (el s.vars i).low (el s.vars i).high) (k + 1) = true) := Lib.hid (by show (allTo _ k && inB (ix st k) (el s.vars k).low (el s.vars k).high) = true; rw [ha.out, hz]; rfl)
          have HZ := Lib.hid hz; clear hz
          go_wp2
          go_region_held3 (fun w' => w'.cell? ⟨wr.heap.size, 0, none⟩ = some (.int .i64 (el s.vars k).low) ∧ w'.cell? ⟨wr.heap.size, 1, none⟩ = some (.int .i64 (el s.vars k).high) ∧ w'.cell? ⟨wr.heap.size, 2, none⟩ = some (.int .i64 (el s.vars k).first) ∧ w'.cell? (ad'.add k) = some (.int .i64 (ix st k)))
            (first | go_keep | (go_split_ands; refine ⟨by simp [go_sem], by simp [go_sem], by simp [go_sem], ?_⟩; exact d3' _))
            ((go_at_call 51; refine (HO.out _).mono ?_; rintro e w4 ⟨rfl, b4⟩; rw [HZ.out]
              have p0 := cell_below b4 (p := ⟨wr.heap.size, 0, none⟩) (by show wr.heap.size < (wr.alloc _).heap.size; rw [World.size_alloc]; omega) (by simp [go_sem]; rfl)
              have p1 := cell_below b4 (p := ⟨wr.heap.size, 1, none⟩) (by show wr.heap.size < (wr.alloc _).heap.size; rw [World.size_alloc]; omega) (by simp [go_sem]; rfl)
              have p2 := cell_below b4 (p := ⟨wr.heap.size, 2, none⟩) (by show wr.heap.size < (wr.alloc _).heap.size; rw [World.size_alloc]; omega) (by simp [go_sem]; rfl)
              have p3 := cell_below b4 (p := ad'.add k) (by rw [add_block]; show ad'.block < (wr.alloc _).heap.size; rw [World.size_alloc]; have := hb.size; omega) (d3' _)))
        · have b5 := below_call (w := wr) (o := .cells #[.int .i64 (el s.vars k).low, .int .i64 (el s.vars k).high, .int .i64 (el s.vars k).first] 47) (w' := w4) ⟨b4.os, b4.tape, b4.output, b4.size, b4.block⟩
          go_wp2
          go_ret
          exact ⟨(congrArg (fun b => Ending.returned (.bool b)) HF.out).symm, hb.trans (b5.mono hb.size)⟩
        · have b5 := below_call (w := wr) (o := .cells #[.int .i64 (el s.vars k).low, .int .i64 (el s.vars k).high, .int .i64 (el s.vars k).first] 47) (w' := w4) ⟨b4.os, b4.tape, b4.output, b4.size, b4.block⟩
          go_wp2
          go_roundg (n3 - (k + 1))
          case measure => omega
          case rel => exact ⟨k + 1, by omega, by go_num, hf, hb.trans (b5.mono hb.size)⟩
      · obtain rfl : k = n3 := by omega
        have HE := Lib.hid (E.out.trans ha.out)
        go_wp2
        go_ret
        exact ⟨(congrArg (fun b => Ending.returned (.bool b)) HE.out).symm, hb⟩
  · have HF := Lib.hid (hasB_len (l := s.vars) (st := st) (by omega))
    have q : ((n3 : Int) != n1) = true := by simp; omega
    have q' : ((n3 : Nat) != n1) = true := by simp; omega
    clear L1 L3
    go_enter Try.func31, Try.ntmps31
    go_wp2
    go_ret
    exact ⟨(congrArg (fun b => Ending.returned (.bool b)) HF.out).symm, below_alloc _ _⟩

set_option maxRecDepth 100000 in
set_option maxHeartbeats 2000000 in
theorem l2In_any (s : Sy) (st : List Int) (A1 : Option Addr) (n1 c1 : Nat) (A2 : Option Addr) (n2 c2 : Nat) (A3 : Option Addr) (n3 c3 : Nat) (w : World) (h1 : Mem.rd w w.heap.size [.slice A1 n1 c1] s.vars) (h3 : Mem.rd w w.heap.size [.slice A3 n3 c3] st) :
    Calls Try.prog 24 #[.agg #[.slice A1 n1 c1, .slice A2 n2 c2], .slice A3 n3 c3] w (GivesBool w (hasB s.vars st)) := by
  have m1 := rd_max h1
  have m3 := rd_max h3
  unfold maxLen at m1 m3
  have L1 := rd_len h1
  have L3 := rd_len h3
  have BX := Lib.hid (sy_box (w := w) (v1 := .slice A1 n1 c1) (v2 := .slice A2 n2 c2))
  by_cases g : n3 = n1
  · subst g
    have E := Lib.hid (hasB_all (l := s.vars) (st := st) (by omega))
    rw [L1] at E
    clear L1 L3
    have h3' := (rd_ints.1 h3).2
    go_enter Try.func24, Try.ntmps24
    go_wp2
    go_loopg [5] n3 (fun m i wr => ∃ k : Nat, k + m = n3 ∧ i = .int .i64 k ∧ Hid (allTo (fun i => inB (ix st i) (el s.vars i).low (el s.vars i).high) k = true) ∧ Below (w.alloc (.cells #[.slice A1 n3 c1, .slice A2 n2 c2] 32)).heap.size (w.alloc (.cells #[.slice A1 n3 c1, .slice A2 n2 c2] 32)) wr)
    case atStart => exact ⟨0, by omega, rfl, Lib.hid rfl, Below.refl _ _⟩
    case round =>
      obtain ⟨k, hk, rfl, ha, hb⟩ := hrel
      obtain ⟨B, x0, x1⟩ := BX.out _ hb
      by_cases hlt : k < n3
      · obtain ⟨ad, rfl, hbl, d0, d1, d2⟩ := vr_at (Mem.rd_below h1 B) hlt
        obtain ⟨ad', rfl, hbl', d3⟩ := (h3'.below B).int hlt
        cases hz : inB (ix st k) (el s.vars k).low (el s.vars k).high
        all_goals
          first
            | have HF := Lib.hid (E.out.trans (allTo_false (f := fun i => inB (ix st i) (el s.vars i).low (el s.vars i).high) hlt hz))
            | have hf : Hid (allTo (fun i => inB (ix st i) (el s.vars i).low (el s.vars i).high) (k + 1) = true) := Lib.hid (by show (allTo _ k && inB (ix st k) (el s.vars k).low (el s.vars k).high) = true; rw [ha.out, hz]; rfl)
          have HZ := Lib.hid hz; clear hz
          go_wp2
          go_quiet ((go_at_call 38; exact Calls.quiet_of_same ((l1In_any _ _ _ _).mono fun _ _ h => ⟨h.1.trans (by rw [HZ.out]), h.2.symm⟩)))
          go_wp2
        · go_ret
          exact ⟨(congrArg (fun b => Ending.returned (.bool b)) HF.out).symm, B.trans ⟨rfl, rfl, rfl, Nat.le_refl _, fun _ _ => rfl⟩⟩
        · go_roundg (n3 - (k + 1))
          case measure => omega
          case rel => exact ⟨k + 1, by omega, by go_num, hf, hb.trans ⟨rfl, rfl, rfl, Nat.le_refl _, fun _ _ => rfl⟩⟩
      · obtain rfl : k = n3 := by omega
        have HE := Lib.hid (E.out.trans ha.out)
        go_wp2
        go_ret
        exact ⟨(congrArg (fun b => Ending.returned (.bool b)) HE.out).symm, B⟩
  · have HF := Lib.hid (hasB_len (l := s.vars) (st := st) (by omega))
    have q : ((n3 : Int) != n1) = true := by simp; omega
    have q' : ((n3 : Nat) != n1) = true := by simp; omega
    clear L1 L3
    go_enter Try.func24, Try.ntmps24
    go_wp2
    go_ret
    exact ⟨(congrArg (fun b => Ending.returned (.bool b)) HF.out).symm, below_alloc _ _⟩

end Go.Proofs.Ytopedgopbofhoaa
