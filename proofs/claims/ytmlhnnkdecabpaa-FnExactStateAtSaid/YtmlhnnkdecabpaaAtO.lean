/- StateAt, of the program and of the model. -/
import Derived.Test.YtmlhnnkdecabpaaAt
import Derived.Test.YtmlhnnkdecabpaaAtS
import Derived.Test.YtmlhnnkdecabpaaSet
import Derived.Test.YtmlhnnkdecabpaaOwnW
namespace Go.Proofs.Ytmlhnnkdecabpaa
open Go.RowKit

theorem stateAt_no {s : Sy} {n : Int} (h : sysB s = false ∨ n < 0 ∨ sizeB s ≤ n) : stateAtB s n = [] := by
  unfold stateAtB
  rcases h with h | h | h
  · rw [h]; rfl
  · rw [decide_eq_false (show ¬ 0 ≤ n by omega)]; simp
  · rw [decide_eq_false (show ¬ n < sizeB s by omega)]; simp
theorem stateAt_yes {s : Sy} {n : Int} (h : sysB s = true) (h0 : 0 ≤ n) (h1 : n < sizeB s) : stateAtB s n = stL s.vars n := by
  unfold stateAtB
  rw [h, decide_eq_true h0, decide_eq_true h1]; rfl

set_option maxHeartbeats 1000000 in
theorem stateAt_impl (s : Sy) (n : Int) (A1 : Option Addr) (n1 c1 : Nat) (A2 : Option Addr) (n2 c2 : Nat) (w : World) (h1 : Mem.rd w w.heap.size [.slice A1 n1 c1] s.vars) (h2 : Mem.rd w w.heap.size [.slice A2 n2 c2] s.rules) :
    Calls Try.prog 29 #[.agg #[.slice A1 n1 c1, .slice A2 n2 c2], .int .i64 n] w (GivesL w (stateAtB s n)) := by
  have L1 := Lib.hid (rd_len h1)
  have BX := Lib.hid (sy_box (w := w) (v1 := .slice A1 n1 c1) (v2 := .slice A2 n2 c2))
  have SV := Lib.hid (fun o => sysValid_impl s A1 n1 c1 A2 n2 c2 (w.alloc o) (Mem.rd_on_alloc h1 o) (Mem.rd_on_alloc h2 o))
  obtain ⟨F, hF⟩ : ∃ F, F = stateAtB s n := ⟨_, rfl⟩
  rw [← hF]
  cases hz : sysB s
  · have E : Hid (F = []) := Lib.hid (hF.trans (stateAt_no (.inl hz)))
    have HZ := Lib.hid hz; clear hz hF
    go_enter Try.func29, Try.ntmps29
    go_wp2_with fail
    refine (SV.out _).mono ?_
    rintro e w2 ⟨rfl, b2⟩
    rw [HZ.out]
    go_wp2
    go_ret
    rw [E.out]
    exact ⟨none, 0, 0, [], rfl, own_none _, List.nodup_nil, by simp, below_call b2⟩
  · have ok := sysOk_of hz
    have hb := sizeB_bd hz
    have SC := Lib.hid (fun w (h1 : Mem.rd w w.heap.size [.slice A1 n1 c1] s.vars) => size_any s A1 n1 c1 A2 n2 c2 w h1 (by have := rd_len h1; have := ok.hi; omega) (allTo_true.2 fun k hk => ok.vars k (by have := rd_len h1; omega)))
    have AC := Lib.hid (fun w (h1 : Mem.rd w w.heap.size [.slice A1 n1 c1] s.vars) h0 h4 => at_any s n A1 n1 c1 A2 n2 c2 w h1 ok h0 h4)
    by_cases g0 : n < 0
    · have E : Hid (F = []) := Lib.hid (hF.trans (stateAt_no (.inr (.inl g0))))
      have HZ := Lib.hid hz; clear hz hF
      go_enter Try.func29, Try.ntmps29
      go_wp2_with fail
      refine (SV.out _).mono ?_
      rintro e w2 ⟨rfl, b2⟩
      rw [HZ.out]
      go_wp2
      go_ret
      rw [E.out]
      exact ⟨none, 0, 0, [], rfl, own_none _, List.nodup_nil, by simp, below_call b2⟩
    · by_cases g1 : sizeB s ≤ n
      · have E : Hid (F = []) := Lib.hid (hF.trans (stateAt_no (.inr (.inr g1))))
        have HZ := Lib.hid hz; clear hz hF
        generalize sizeB s = z at *
        go_enter Try.func29, Try.ntmps29
        go_wp2_with fail
        refine (SV.out _).mono ?_
        rintro e w2 ⟨rfl, b2⟩
        rw [HZ.out]
        obtain ⟨B2, x0, x1⟩ := BX.out _ b2
        go_wp2_with fail
        refine (SC.out _ (Mem.rd_on h1 B2)).mono ?_
        rintro e w3 ⟨rfl, b3⟩
        go_wp2
        go_ret
        rw [E.out]
        exact ⟨none, 0, 0, [], rfl, own_none _, List.nodup_nil, by simp, B2.trans (b3.mono B2.size)⟩
      · have E : Hid (F = stL s.vars n) := Lib.hid (hF.trans (stateAt_yes hz (by omega) (by omega)))
        have LS : Hid (1 ≤ (stL s.vars n).length ∧ (stL s.vars n).length ≤ 5) := Lib.hid (by rw [stL_len]; have := ok.lo; have := ok.hi; omega)
        have HZ := Lib.hid hz; clear hz hF
        generalize stL s.vars n = S at *
        generalize sizeB s = z at *
        have LC := Lib.hid (fun w => list_any S w LS.out.1 LS.out.2)
        unfold ptV at LC AC
        obtain ⟨m, hm⟩ : ∃ m : Nat, m = S.length := ⟨_, rfl⟩
        have HM := Lib.hid hm
        rw [← hm] at LC AC
        clear hm
        go_enter Try.func29, Try.ntmps29
        go_wp2_with fail
        refine (SV.out _).mono ?_
        rintro e w2 ⟨rfl, b2⟩
        rw [HZ.out]
        obtain ⟨B2, x0, x1⟩ := BX.out _ b2
        go_wp2_with fail
        refine (SC.out _ (Mem.rd_on h1 B2)).mono ?_
        rintro e w3 ⟨rfl, b3⟩
        have b23 := b2.trans (b3.mono b2.size)
        obtain ⟨B3, y0, y1⟩ := BX.out _ b23
        go_wp2_with fail
        refine (AC.out _ (Mem.rd_on h1 B3) (by omega) (by omega)).mono ?_
        rintro e w4 ⟨rfl, b4⟩
        go_wp2_with fail
        refine (LC.out _).mono ?_
        rintro e w5 g5
        obtain ⟨v5, rfl, o5, b5⟩ := g5
        have B4 := B3.trans (b4.mono B3.size)
        go_wp2
        go_ret
        rw [E.out]
        exact givesL_of ⟨v5, rfl, own_lower o5 B4.size, B4.trans (b5.mono B4.size)⟩ (by have := LS.out; unfold maxLen; omega)

set_option maxHeartbeats 1000000 in
theorem stateAt_spec (s : Sy) (n : Int) (A1 : Option Addr) (n1 c1 : Nat) (A2 : Option Addr) (n2 c2 : Nat) (w : World) (h1 : Mem.rd w w.heap.size [.slice A1 n1 c1] s.vars) (h2 : Mem.rd w w.heap.size [.slice A2 n2 c2] s.rules) :
    Calls Try.prog 28 #[.agg #[.slice A1 n1 c1, .slice A2 n2 c2], .int .i64 n] w (GivesL w (stateAtB s n)) := by
  have BX := Lib.hid (sy_box (w := w) (v1 := .slice A1 n1 c1) (v2 := .slice A2 n2 c2))
  have SZ := Lib.hid (fun o => sizeOf_spec s A1 n1 c1 A2 n2 c2 (w.alloc o) (Mem.rd_on_alloc h1 o) (Mem.rd_on_alloc h2 o))
  obtain ⟨F, hF⟩ : ∃ F, F = stateAtB s n := ⟨_, rfl⟩
  rw [← hF]
  obtain ⟨z, hz⟩ : ∃ z, z = sizeOf s := ⟨_, rfl⟩
  have hzb : 0 ≤ z ∧ z ≤ 400 := by
    rw [hz]; unfold sizeOf
    by_cases q : sysB s = true
    · rw [if_pos q]; have := sizeB_bd q; omega
    · rw [if_neg q]; omega
  have wv : IntKind.i64.wrap (z - 1) = z - 1 := IntWalk.i64_in _ (by omega)
  cases hi : inB n 0 (z - 1)
  · have E : Hid (F = []) := Lib.hid (hF.trans (stateAt_no (by
      by_cases q : sysB s = true
      · unfold sizeOf at hz
        rw [if_pos q] at hz
        rw [← hz]
        unfold inB at hi
        simp at hi
        omega
      · exact .inl (by simpa using q))))
    have HI := Lib.hid hi
    rw [← hz] at SZ
    clear hi hz hF
    go_enter Try.func28, Try.ntmps28
    go_wp2_with fail
    refine (SZ.out _).mono ?_
    rintro e w2 ⟨rfl, b2⟩
    go_wp2_with fail
    refine (l1In_any _ _ _ _).mono ?_
    rintro e w3 ⟨rfl, rfl⟩
    rw [HI.out]
    go_wp2
    go_ret
    rw [E.out]
    exact ⟨none, 0, 0, [], rfl, own_none _, List.nodup_nil, by simp, below_call b2⟩
  · have hn : 0 ≤ n ∧ n < z := by
      unfold inB at hi; simp at hi; omega
    have q : sysB s = true := by
      by_cases q : sysB s = true
      · exact q
      · unfold sizeOf at hz; rw [if_neg q] at hz; omega
    have hzs : z = sizeB s := by unfold sizeOf at hz; rw [if_pos q] at hz; exact hz
    have E : Hid (F = stL s.vars n) := Lib.hid (hF.trans (stateAt_yes q (by omega) (by omega)))
    have LS : Hid ((stL s.vars n).length ≤ 5) := Lib.hid (by rw [stL_len]; exact (sysOk_of q).hi)
    have AC := Lib.hid (fun w h1 h2 => l4State_any s n A1 n1 c1 A2 n2 c2 w h1 h2 q (by omega) (by omega))
    have HI := Lib.hid hi
    rw [← hz] at SZ
    clear hi hz hF hzs q
    generalize stL s.vars n = S at *
    go_enter Try.func28, Try.ntmps28
    go_wp2_with fail
    refine (SZ.out _).mono ?_
    rintro e w2 ⟨rfl, b2⟩
    obtain ⟨B2, x0, x1⟩ := BX.out _ b2
    go_wp2_with fail
    refine (l1In_any _ _ _ _).mono ?_
    rintro e w3 ⟨rfl, rfl⟩
    rw [HI.out]
    go_wp2_with fail
    refine (AC.out _ (Mem.rd_on h1 B2) (Mem.rd_on h2 B2)).mono ?_
    rintro e w5 g5
    obtain ⟨v5, rfl, o5, b5⟩ := g5
    go_wp2
    go_ret
    rw [E.out]
    exact givesL_of ⟨v5, rfl, own_lower o5 B2.size, B2.trans (b5.mono B2.size)⟩ (by have := LS.out; unfold maxLen; omega)
end Go.Proofs.Ytmlhnnkdecabpaa
