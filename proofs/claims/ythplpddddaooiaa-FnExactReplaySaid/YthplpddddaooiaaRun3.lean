/- Use, of the program and of the model. -/
import Derived.Test.YthplpddddaooiaaUseIm
namespace Go.Proofs.Ythplpddddaooiaa
open Go.RowKit

def useOut (s : Sy) (st : List Int) (r : Int) : List Int := if inRangeB s st && ruleIn s r then useL s st r.toNat else []
def useOk (s : Sy) (st : List Int) (r : Int) : Bool := decide (0 < (useOut s st r).length)
theorem useR_len (R : Rl) (l : List Vr) (st : List Int) : (useR R l st).length = 0 ∨ (useR R l st).length = st.length := by
  unfold useR
  by_cases h : valB R.cond st = 0
  · rw [if_pos h]; exact .inl rfl
  · rw [if_neg h]
    by_cases h2 : hasB l (madeTo R st R.sets.length) = true
    · rw [if_pos h2]; exact .inr (len_made _ _ _)
    · rw [if_neg h2]; exact .inl rfl
theorem useL_len (s : Sy) (st : List Int) (r : Nat) : (useL s st r).length = 0 ∨ (useL s st r).length = st.length := useR_len _ _ _
theorem inRange_parts {s : Sy} {st : List Int} (h : inRangeB s st = true) : SysOk s ∧ hasB s.vars st = true := by
  unfold inRangeB at h
  simp only [Bool.and_eq_true] at h
  exact ⟨sysOk_of h.1, h.2⟩
theorem useOut_len (s : Sy) (st : List Int) (r : Int) : (useOut s st r).length ≤ 1000000 := by
  unfold useOut
  cases h : inRangeB s st && ruleIn s r
  · simp
  · simp only [Bool.and_eq_true] at h
    obtain ⟨ok, hin⟩ := inRange_parts h.1
    have := has_len hin
    have := ok.hi
    rw [if_pos rfl]
    rcases useL_len s st r.toNat with e | e <;> omega
set_option maxRecDepth 100000 in
set_option maxHeartbeats 4000000 in
theorem use_spec (s : Sy) (st : List Int) (r : Int) (A1 : Option Addr) (n1 c1 : Nat) (A2 : Option Addr) (n2 c2 : Nat) (A3 : Option Addr) (n3 c3 : Nat) (w : World) (h1 : Mem.rd w w.heap.size [.slice A1 n1 c1] s.vars) (h2 : Mem.rd w w.heap.size [.slice A2 n2 c2] s.rules) (h3 : Mem.rd w w.heap.size [.slice A3 n3 c3] st) :
    Calls Try.prog 22 #[.agg #[.slice A1 n1 c1, .slice A2 n2 c2], .slice A3 n3 c3, .int .i64 r] w (GivesLB w (useOut s st r) (useOk s st r)) := by
  have BX := Lib.hid (sy_box (w := w) (v1 := .slice A1 n1 c1) (v2 := .slice A2 n2 c2))
  have SV := Lib.hid (fun o => inRange_spec s st A1 n1 c1 A2 n2 c2 A3 n3 c3 (w.alloc o) (Mem.rd_on_alloc h1 o) (Mem.rd_on_alloc h2 o) (Mem.rd_on_alloc h3 o))
  have L2 := rd_len h2
  have m2 := rd_max h2
  unfold maxLen at m2
  obtain ⟨F, hF⟩ : ∃ F, F = useOut s st r := ⟨_, rfl⟩
  obtain ⟨b, hb⟩ : ∃ b, b = useOk s st r := ⟨_, rfl⟩
  rw [← hF, ← hb]
  have HF := Lib.hid hF
  have HB := Lib.hid hb
  clear hF hb
  cases hz : inRangeB s st
  · have E1 : Hid (F = []) := Lib.hid (by rw [HF.out]; unfold useOut; rw [hz]; rfl)
    have E2 : Hid (b = false) := Lib.hid (by rw [HB.out]; unfold useOk; rw [← HF.out, E1.out]; rfl)
    have HZ := Lib.hid hz; clear hz L2
    go_enter Try.func22, Try.ntmps22
    go_wp2_with fail
    refine (SV.out _).mono ?_
    rintro e w2 ⟨rfl, b2⟩
    rw [HZ.out]
    go_wp2
    refine bodyPost_ret (v := .tuple #[.slice none 0 0, .bool false]) (by simp [results, Try.results22, go_sem]) rfl ?_
    rw [E1.out, E2.out]
    exact ⟨none, 0, 0, [], rfl, own_none _, List.nodup_nil, by simp, below_call b2⟩
  · have I : Hid (inB r 0 (n2 - 1) = ruleIn s r) := Lib.hid (by unfold inB ruleIn; rw [L2]; congr 1; rw [decide_eq_decide]; omega)
    obtain ⟨ok, hin⟩ := inRange_parts hz
    cases hr : ruleIn s r
    · have E1 : Hid (F = []) := Lib.hid (by rw [HF.out]; unfold useOut; rw [hz, hr]; rfl)
      have E2 : Hid (b = false) := Lib.hid (by rw [HB.out]; unfold useOk; rw [← HF.out, E1.out]; rfl)
      have HZ := Lib.hid hz; clear hz L2
      have HR := Lib.hid hr; clear hr
      go_enter Try.func22, Try.ntmps22
      go_wp2_with fail
      refine (SV.out _).mono ?_
      rintro e w2 ⟨rfl, b2⟩
      rw [HZ.out]
      obtain ⟨B2, x0, x1⟩ := BX.out _ b2
      go_wp2_with fail
      refine (l1In_any _ _ _ _).mono ?_
      rintro e w3 ⟨rfl, rfl⟩
      rw [I.out, HR.out]
      go_wp2
      refine bodyPost_ret (v := .tuple #[.slice none 0 0, .bool false]) (by simp [results, Try.results22, go_sem]) rfl ?_
      rw [E1.out, E2.out]
      exact ⟨none, 0, 0, [], rfl, own_none _, List.nodup_nil, by simp, B2⟩
    · obtain ⟨k, rfl, hk⟩ := ruleIn_at hr
      have E1 : Hid (F = useL s st k) := Lib.hid (by rw [HF.out]; unfold useOut; rw [hz, hr]; rfl)
      have E2 : Hid (b = decide (0 < F.length)) := Lib.hid (by rw [HB.out]; unfold useOk; rw [← HF.out])
      have hFl : F.length ≤ 5 := by
        have := has_len hin
        have := ok.hi
        rw [E1.out]
        rcases useL_len s st k with e | e <;> omega
      have UC := Lib.hid (fun w (h1 : Mem.rd w w.heap.size [.slice A1 n1 c1] s.vars) h2 h3 => l2Use_any s st k A1 n1 c1 A2 n2 c2 A3 n3 c3 w h1 h2 h3 ok hin hk)
      rw [← E1.out] at UC
      have HZ := Lib.hid hz; clear hz L2
      have HR := Lib.hid hr; clear hr
      go_enter Try.func22, Try.ntmps22
      go_wp2_with fail
      refine (SV.out _).mono ?_
      rintro e w2 ⟨rfl, b2⟩
      rw [HZ.out]
      obtain ⟨B2, x0, x1⟩ := BX.out _ b2
      go_wp2_with fail
      refine (l1In_any _ _ _ _).mono ?_
      rintro e w3 ⟨rfl, rfl⟩
      rw [I.out, HR.out]
      go_wp2_with fail
      refine (UC.out _ (Mem.rd_on h1 B2) (Mem.rd_on h2 B2) (Mem.rd_on h3 B2)).mono ?_
      rintro e w4 ⟨v, rfl, o4, b4⟩
      obtain ⟨A4, c4, rfl, _, _⟩ := own_form o4
      obtain ⟨fp, om, nd, lo⟩ := mem_ints o4 (by unfold maxLen; omega)
      go_wp2
      refine bodyPost_ret (v := .tuple #[.slice A4 F.length c4, .bool b]) (by rw [E2.out]; simp [results, Try.results22, go_sem]) rfl ?_
      exact ⟨A4, _, c4, fp, rfl, om, nd, fun x hx => Nat.le_trans B2.size (lo x hx), B2.trans (b4.mono B2.size)⟩
end Go.Proofs.Ythplpddddaooiaa
