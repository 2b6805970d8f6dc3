/- Use, of the program. -/
import Derived.Test.YtpaagplopefklaaUseIm
import Derived.Deep.RegionHeld3
namespace Go.Proofs.Ytpaagplopefklaa
open Go.RowKit

def useOut (s : Sy) (st : List Int) (r : Int) : List Int := if inRangeB s st && ruleIn s r then useL s st r.toNat else []
def useOk (s : Sy) (st : List Int) (r : Int) : Bool := decide (0 < (useOut s st r).length)
theorem useR_len (R : Rl) (l : List Vr) (st : List Int) : (useR R l st).length = 0 ∨ (useR R l st).length = st.length := by
  unfold useR
  by_cases h : valB R.cond st = 0
  · rw [if_pos h]; exact .inl rfl
  · rw [if_neg h]
    by_cases h2 : hasB l (madeTo R st R.sets.length) = true
    · rw [if_pos h2]; exact .inr (len_made _ _ _)
    · rw [if_neg h2]; exact .inl rfl
theorem useL_len (s : Sy) (st : List Int) (r : Nat) : (useL s st r).length = 0 ∨ (useL s st r).length = st.length := useR_len _ _ _
theorem inRange_parts {s : Sy} {st : List Int} (h : inRangeB s st = true) : SysOk s ∧ hasB s.vars st = true := by
  unfold inRangeB at h
  simp only [Bool.and_eq_true] at h
  exact ⟨sysOk_of h.1, h.2⟩
theorem useOut_len (s : Sy) (st : List Int) (r : Int) : (useOut s st r).length ≤ 1000000 := by
  unfold useOut
  cases h : inRangeB s st && ruleIn s r
  · simp
  · simp only [Bool.and_eq_true] at h
    obtain ⟨ok, hin⟩ := inRange_parts h.1
    have := has_len hin
    have := ok.hi
    rw [if_pos rfl]
    rcases useL_len s st r.toNat with e | e <;> omega
set_option maxRecDepth 100000 in
set_option maxHeartbeats 4000000 in
theorem use_spec (s : Sy) (st : List Int) (r : Int) (A1 : Option Addr) (n1 c1 : Nat) (A2 : Option Addr) (n2 c2 : Nat) (A3 : Option Addr) (n3 c3 : Nat) (w : World) (h1 : Mem.rd w w.heap.size [.slice A1 n1 c1] s.vars) (h2 : Mem.rd w w.heap.size [.slice A2 n2 c2] s.rules) (h3 : Mem.rd w w.heap.size [.slice A3 n3 c3] st) :
    Calls Try.prog 26 #[.agg #[.slice A1 n1 c1, .slice A2 n2 c2], .slice A3 n3 c3, .int .i64 r] w (GivesLB w (useOut s st r) (useOk s st r)) := by
  have BX := Lib.hid (sy_box (w := w) (v1 := .slice A1 n1 c1) (v2 := .slice A2 n2 c2))
  have SV := Lib.hid (fun o => inRange_spec s st A1 n1 c1 A2 n2 c2 A3 n3 c3 (w.alloc o) (Mem.rd_on_alloc h1 o) (Mem.rd_on_alloc h2 o) (Mem.rd_on_alloc h3 o))
  have L2 := rd_len h2
  have m2 := rd_max h2
  unfold maxLen at m2
  obtain ⟨F, hF⟩ : ∃ F, F = useOut s st r := ⟨_, rfl⟩
  obtain ⟨b, hb⟩ : ∃ b, b = useOk s st r := ⟨_, rfl⟩
  rw [← hF, ← hb]
  have HF := Lib.hid hF
  have HB := Lib.hid hb
  clear hF hb
  cases hz : inRangeB s st
  · have E1 : Hid (F = []) := Lib.hid (by rw [HF.out]; unfold useOut; rw [hz]; rfl)
    have E2 : Hid (b = false) := Lib.hid (by rw [HB.out]; unfold useOk; rw [← HF.out, E1.out]; rfl)
    have HZ := Lib.hid hz; clear hz L2
    go_enter Try.func26, Try.ntmps26
    go_wp2_with fail
    refine (SV.out _).mono ?_
    rintro e w2 ⟨rfl, b2⟩
    rw [HZ.out]
    go_wp2
    refine bodyPost_ret (v := .tuple #[.slice none 0 0, .bool false]) (by simp [results, Try.results26, go_sem]) rfl ?_
    rw [E1.out, E2.out]
    exact ⟨none, 0, 0, [], rfl, own_none _, List.nodup_nil, by simp, below_call b2⟩
  · have I : Hid (inB r 0 (n2 - 1) = ruleIn s r) := Lib.hid (by unfold inB ruleIn; rw [L2]; congr 1; rw [decide_eq_decide]; omega)
    obtain ⟨ok, hin⟩ := inRange_parts hz
    cases hr : ruleIn s r
    · have E1 : Hid (F = []) := Lib.hid (by rw [HF.out]; unfold useOut; rw [hz, hr]; rfl)
      have E2 : Hid (b = false) := Lib.hid (by rw [HB.out]; unfold useOk; rw [← HF.out, E1.out]; rfl)
      have HZ := Lib.hid hz; clear hz L2
      have HR := Lib.hid hr; clear hr
      go_enter Try.func26, Try.ntmps26
      go_wp2_with fail
      refine (SV.out _).mono ?_
      rintro e w2 ⟨rfl, b2⟩
      rw [HZ.out]
      obtain ⟨B2, x0, x1⟩ := BX.out _ b2
      go_wp2_with fail
      refine (l1In_any _ _ _ _).mono ?_
      rintro e w3 ⟨rfl, rfl⟩
      rw [I.out, HR.out]
      go_wp2
      refine bodyPost_ret (v := .tuple #[.slice none 0 0, .bool false]) (by simp [results, Try.results26, go_sem]) rfl ?_
      rw [E1.out, E2.out]
      exact ⟨none, 0, 0, [], rfl, own_none _, List.nodup_nil, by simp, B2⟩
    · obtain ⟨k, rfl, hk⟩ := ruleIn_at hr
      have E1 : Hid (F = useL s st k) := Lib.hid (by rw [HF.out]; unfold useOut; rw [hz, hr]; rfl)
      have E2 : Hid (b = decide (0 < F.length)) := Lib.hid (by rw [HB.out]; unfold useOk; rw [← HF.out])
      have hFl : F.length ≤ 5 := by
        have := has_len hin
        have := ok.hi
        rw [E1.out]
        rcases useL_len s st k with e | e <;> omega
      have UC := Lib.hid (fun w (h1 : Mem.rd w w.heap.size [.slice A1 n1 c1] s.vars) h2 h3 => l2Use_any s st k A1 n1 c1 A2 n2 c2 A3 n3 c3 w h1 h2 h3 ok hin hk)
      rw [← E1.out] at UC
      have HZ := Lib.hid hz; clear hz L2
      have HR := Lib.hid hr; clear hr
      go_enter Try.func26, Try.ntmps26
      go_wp2_with fail
      refine (SV.out _).mono ?_
      rintro e w2 ⟨rfl, b2⟩
      rw [HZ.out]
      obtain ⟨B2, x0, x1⟩ := BX.out _ b2
      go_wp2_with fail
      refine (l1In_any _ _ _ _).mono ?_
      rintro e w3 ⟨rfl, rfl⟩
      rw [I.out, HR.out]
      go_wp2_with fail
      refine (UC.out _ (Mem.rd_on h1 B2) (Mem.rd_on h2 B2) (Mem.rd_on h3 B2)).mono ?_
      rintro e w4 ⟨v, rfl, o4, b4⟩
      obtain ⟨A4, c4, rfl, _, _⟩ := own_form o4
      obtain ⟨fp, om, nd, lo⟩ := mem_ints o4 (by unfold maxLen; omega)
      go_wp2
      refine bodyPost_ret (v := .tuple #[.slice A4 F.length c4, .bool b]) (by rw [E2.out]; simp [results, Try.results26, go_sem]) rfl ?_
      exact ⟨A4, _, c4, fp, rfl, om, nd, fun x hx => Nat.le_trans B2.size (lo x hx), B2.trans (b4.mono B2.size)⟩
end Go.Proofs.Ytpaagplopefklaa
namespace Go.Proofs.Ytpaagplopefklaa
open Go.RowKit

theorem six_far {w : World} {g : Nat} {a b c d e f v : Value} {p : Addr} (h : p.block ≠ g) (k : w.cell? p = some v) :
    ((((((w.setCell ⟨g, 0, none⟩ a).setCell ⟨g, 1, none⟩ b).setCell ⟨g, 2, none⟩ c).setCell ⟨g, 3, none⟩ d).setCell ⟨g, 4, none⟩ e).setCell ⟨g, 5, none⟩ f).cell? p = some v :=
  set_far h (set_far h (set_far h (set_far h (set_far h (set_far h k)))))

theorem bb_of {w W w6 : World} (_ : Below W.heap.size W w6) (h : Below w.heap.size w W) : Below w.heap.size w W := h
theorem six_below6 {B : Nat} {w0 w : World} {g : Nat} {a b c d e f : Value} (h : B ≤ g) (k : Below B w0 w) :
    Below B w0 ((((((w.setCell ⟨g, 0, none⟩ a).setCell ⟨g, 1, none⟩ b).setCell ⟨g, 2, none⟩ c).setCell ⟨g, 3, none⟩ d).setCell ⟨g, 4, none⟩ e).setCell ⟨g, 5, none⟩ f) :=
  (((((k.setCell h _).setCell h _).setCell h _).setCell h _).setCell h _).setCell h _

set_option maxRecDepth 100000 in
set_option maxHeartbeats 4000000 in
theorem use_impl (s : Sy) (st : List Int) (r : Int) (A1 : Option Addr) (n1 c1 : Nat) (A2 : Option Addr) (n2 c2 : Nat) (A3 : Option Addr) (n3 c3 : Nat) (w : World) (h1 : Mem.rd w w.heap.size [.slice A1 n1 c1] s.vars) (h2 : Mem.rd w w.heap.size [.slice A2 n2 c2] s.rules) (h3 : Mem.rd w w.heap.size [.slice A3 n3 c3] st) :
    Calls Try.prog 27 #[.agg #[.slice A1 n1 c1, .slice A2 n2 c2], .slice A3 n3 c3, .int .i64 r] w (GivesLB w (useOut s st r) (useOk s st r)) := by
  have BX := Lib.hid (sy_box (w := w) (v1 := .slice A1 n1 c1) (v2 := .slice A2 n2 c2))
  have SV := Lib.hid (fun o => inRange_impl s st A1 n1 c1 A2 n2 c2 A3 n3 c3 (w.alloc o) (Mem.rd_on_alloc h1 o) (Mem.rd_on_alloc h2 o) (Mem.rd_on_alloc h3 o))
  have L2 := rd_len h2
  have m2 := rd_max h2
  unfold maxLen at m2
  obtain ⟨F, hF⟩ : ∃ F, F = useOut s st r := ⟨_, rfl⟩
  obtain ⟨b, hb⟩ : ∃ b, b = useOk s st r := ⟨_, rfl⟩
  rw [← hF, ← hb]
  have HF := Lib.hid hF
  have HB := Lib.hid hb
  clear hF hb
  cases hz : inRangeB s st
  · have E1 : Hid (F = []) := Lib.hid (by rw [HF.out]; unfold useOut; rw [hz]; rfl)
    have E2 : Hid (b = false) := Lib.hid (by rw [HB.out]; unfold useOk; rw [← HF.out, E1.out]; rfl)
    have HZ := Lib.hid hz; clear hz L2
    go_enter Try.func27, Try.ntmps27
    go_wp2_with fail
    refine (SV.out _).mono ?_
    rintro e w2 ⟨rfl, b2⟩
    rw [HZ.out]
    go_wp2
    refine bodyPost_ret (v := .tuple #[.slice none 0 0, .bool false]) (by simp [results, Try.results27, go_sem]) rfl ?_
    rw [E1.out, E2.out]
    exact ⟨none, 0, 0, [], rfl, own_none _, List.nodup_nil, by simp, below_call b2⟩
  · obtain ⟨ok, hin⟩ := inRange_parts hz
    cases hr : ruleIn s r
    · have E1 : Hid (F = []) := Lib.hid (by rw [HF.out]; unfold useOut; rw [hz, hr]; rfl)
      have E2 : Hid (b = false) := Lib.hid (by rw [HB.out]; unfold useOk; rw [← HF.out, E1.out]; rfl)
      have HZ := Lib.hid hz; clear hz L2
      have HR := Lib.hid hr; clear hr
      go_enter Try.func27, Try.ntmps27
      go_wp2_with fail
      refine (SV.out _).mono ?_
      rintro e w2 ⟨rfl, b2⟩
      rw [HZ.out]
      obtain ⟨B2, x0, x1⟩ := BX.out _ b2
      go_wp2_with fail
      refine (hasRule_any s _ A1 n1 c1 A2 n2 c2 w2 (Mem.rd_on h2 B2)).mono ?_
      rintro e w3 ⟨rfl, b3⟩
      rw [HR.out]
      have b23 := b2.trans (b3.mono b2.size)
      obtain ⟨B3, x0, x1⟩ := BX.out _ b23
      go_wp2
      refine bodyPost_ret (v := .tuple #[.slice none 0 0, .bool false]) (by simp [results, Try.results27, go_sem]) rfl ?_
      rw [E1.out, E2.out]
      exact ⟨none, 0, 0, [], rfl, own_none _, List.nodup_nil, by simp, B3⟩
    · obtain ⟨k, rfl, hk⟩ := ruleIn_at hr
      have E1 : Hid (F = useL s st k) := Lib.hid (by rw [HF.out]; unfold useOut; rw [hz, hr]; rfl)
      have E2 : Hid (b = decide (0 < F.length)) := Lib.hid (by rw [HB.out]; unfold useOk; rw [← HF.out])
      have hFl : F.length ≤ 5 := by
        have := has_len hin
        have := ok.hi
        rw [E1.out]
        rcases useL_len s st k with e | e <;> omega
      have hl3 := rd_len h3
      have hn3 : 1 ≤ n3 ∧ n3 ≤ 5 := by have := has_len hin; have := ok.hi; have := ok.lo; omega
      have L3 := Lib.hid hl3
      have UC := Lib.hid (fun w (h1 : Mem.rd w w.heap.size [.slice A1 n1 c1] s.vars) h2 => useP_any s st k A1 n1 c1 A2 n2 c2 w h1 h2 ok hin hk)
      have PC := Lib.hid (fun w (h3 : Mem.rd w w.heap.size [.slice A3 n3 c3] st) => pointOf_any A3 n3 c3 st w (rd_ints.1 h3).2 hn3.1 hn3.2)
      have UB : Hid (useB s st k = b) := Lib.hid (by rw [E2.out, E1.out]; rfl)
      rw [UB.out, ← E1.out] at UC
      have HZ := Lib.hid hz; clear hz L2 hl3
      have HR := Lib.hid hr; clear hr
      unfold ptV at UC PC
      cases b
      all_goals
        go_enter Try.func27, Try.ntmps27
        go_wp2_with fail
        refine (SV.out _).mono ?_
        rintro e w2 ⟨rfl, b2⟩
        rw [HZ.out]
        obtain ⟨B2, x0, x1⟩ := BX.out _ b2
        go_wp2_with fail
        refine (hasRule_any s _ A1 n1 c1 A2 n2 c2 w2 (Mem.rd_on h2 B2)).mono ?_
        rintro e w3 ⟨rfl, b3⟩
        rw [HR.out]
        have b23 := b2.trans (b3.mono b2.size)
        obtain ⟨B3, x0, x1⟩ := BX.out _ b23
        have l3 : w.heap.size < w3.heap.size := by have := b23.size; simp at this; omega
        go_wp2
        have x0d : w3.drew.cell? ⟨w.heap.size, 0, none⟩ = some (.slice A1 n1 c1) := x0
        have x1d : w3.drew.cell? ⟨w.heap.size, 1, none⟩ = some (.slice A2 n2 c2) := x1
        have xa0 : ∀ o, (w3.alloc o).drew.cell? ⟨w.heap.size, 0, none⟩ = some (.slice A1 n1 c1) := fun o => show (w3.alloc o).cell? _ = _ from cell_below (below_alloc w3 o) l3 x0
        have xa1 : ∀ o, (w3.alloc o).drew.cell? ⟨w.heap.size, 1, none⟩ = some (.slice A2 n2 c2) := fun o => show (w3.alloc o).cell? _ = _ from cell_below (below_alloc w3 o) l3 x1
        have l3a : ∀ o, w.heap.size < (w3.alloc o).drew.heap.size := fun o => by show w.heap.size < (w3.alloc o).heap.size; rw [World.size_alloc]; exact Nat.lt_succ_of_lt l3
        go_region_held3 (fun w' => w'.cell? ⟨w.heap.size, 0, none⟩ = some (.slice A1 n1 c1) ∧ w'.cell? ⟨w.heap.size, 1, none⟩ = some (.slice A2 n2 c2))
          (first
            | with_reducible exact ⟨x0d, x1d⟩
            | with_reducible exact ⟨y0, y1⟩
            | with_reducible exact ⟨v0, v1⟩
            | with_reducible exact ⟨xa0 _, xa1 _⟩
            | with_reducible exact ⟨ya0 _, ya1 _⟩
            | with_reducible exact ⟨va0 _, va1 _⟩
            | with_reducible exact ⟨six_far hne v0, six_far hne v1⟩
            | with_reducible exact ⟨six_far hne (va0 _), six_far hne (va1 _)⟩
            | fail)
          (first
            | (go_at_call 60; refine (PC.out w3.drew (Mem.rd_drew (Mem.rd_on h3 B3))).mono ?_; rintro e w4 ⟨rfl, b4⟩
               have y0 := cell_below b4 (p := ⟨w.heap.size, 0, none⟩) l3 x0
               have y1 := cell_below b4 (p := ⟨w.heap.size, 1, none⟩) l3 x1
               have l4 := Nat.lt_of_lt_of_le l3 b4.size
               have b4n : Below w3.heap.size w3 w4 := ⟨b4.os, b4.tape, b4.output, b4.size, b4.block⟩
               have B4 := B3.trans (b4n.mono B3.size)
               have ya0 := fun o => cell_below (below_alloc w4 o) l4 y0
               have ya1 := fun o => cell_below (below_alloc w4 o) l4 y1
               have B4a := fun o => B4.trans ((below_alloc w4 o).mono B4.size))
            | (go_at_call 60; refine (PC.out (w3.alloc _).drew (Mem.rd_drew (Mem.rd_on_alloc (Mem.rd_on h3 B3) _))).mono ?_; rintro e w4 ⟨rfl, b4⟩
               have y0 := cell_below b4 (p := ⟨w.heap.size, 0, none⟩) (l3a _) (xa0 _)
               have y1 := cell_below b4 (p := ⟨w.heap.size, 1, none⟩) (l3a _) (xa1 _)
               have l4 := Nat.lt_of_lt_of_le (l3a _) b4.size
               have b4n : Below w3.heap.size w3 w4 := by have q : Below (w3.alloc _).heap.size (w3.alloc _) w4 := ⟨b4.os, b4.tape, b4.output, b4.size, b4.block⟩; exact below_call q
               have B4 := B3.trans (b4n.mono B3.size)
               have kZ4 : Blk w4 w3.heap.size 84 [.int .i64 0, .int .i64 0, .int .i64 0, .int .i64 0, .int .i64 0, .int .i64 0] := by have q : Below (w3.alloc _).heap.size (w3.alloc _) w4 := ⟨b4.os, b4.tape, b4.output, b4.size, b4.block⟩; exact (Blk.new w3 _ _).below q (by rw [World.size_alloc]; exact Nat.lt_succ_self _)
               have lZ4 : w3.heap.size < w4.heap.size := Nat.lt_of_lt_of_le (show w3.heap.size < (w3.alloc _).heap.size by rw [World.size_alloc]; exact Nat.lt_succ_self _) b4.size)
            | (go_at_call 59; refine (UC.out _ (Mem.rd_on h1 (B4a _)) (Mem.rd_on h2 (B4a _))).mono ?_; rintro e w5 ⟨rfl, b5⟩
               have v0 := cell_below b5 (p := ⟨w.heap.size, 0, none⟩) (by show w.heap.size < (w4.alloc _).heap.size; rw [World.size_alloc]; omega) (ya0 _)
               have v1 := cell_below b5 (p := ⟨w.heap.size, 1, none⟩) (by show w.heap.size < (w4.alloc _).heap.size; rw [World.size_alloc]; omega) (ya1 _)
               have kZ : Blk w5 w4.heap.size 84 [.int .i64 0, .int .i64 0, .int .i64 0, .int .i64 0, .int .i64 0, .int .i64 0] := (Blk.new w4 _ _).below b5 (by rw [World.size_alloc]; omega)
               have B5 := (B4a _).trans (b5.mono (B4a _).size)
               have hne : w.heap.size ≠ w4.heap.size := Nat.ne_of_lt l4
               have hge : w.heap.size ≤ w4.heap.size := B4.size
               have lq := B4.size
               obtain ⟨q0, q1, q2, q3, q4, q5⟩ := six_cells kZ
               obtain ⟨f0, f1, f2, f3, f4, f5⟩ := six_frozen kZ)
            | (go_at_call 59; refine (UC.out w4 (Mem.rd_on h1 B4) (Mem.rd_on h2 B4)).mono ?_; rintro e w5 ⟨rfl, b5⟩
               have v0 := cell_below b5 (p := ⟨w.heap.size, 0, none⟩) l4 y0
               have v1 := cell_below b5 (p := ⟨w.heap.size, 1, none⟩) l4 y1
               have kZ := kZ4.below b5 lZ4
               have B5 := B4.trans (b5.mono B4.size)
               have hne : w.heap.size ≠ w3.heap.size := Nat.ne_of_lt l3
               have hge : w.heap.size ≤ w3.heap.size := B3.size
               have lq := B3.size
               obtain ⟨q0, q1, q2, q3, q4, q5⟩ := six_cells kZ
               obtain ⟨f0, f1, f2, f3, f4, f5⟩ := six_frozen kZ)
            | (go_at_call 59; refine (UC.out w4 (Mem.rd_on h1 B4) (Mem.rd_on h2 B4)).mono ?_; rintro e w5 ⟨rfl, b5⟩
               have v0 := cell_below b5 (p := ⟨w.heap.size, 0, none⟩) l4 y0
               have v1 := cell_below b5 (p := ⟨w.heap.size, 1, none⟩) l4 y1
               have l5 := Nat.lt_of_lt_of_le l4 b5.size
               have va0 := fun o => cell_below (below_alloc w5 o) l5 v0
               have va1 := fun o => cell_below (below_alloc w5 o) l5 v1
               have hne : w.heap.size ≠ w5.heap.size := Nat.ne_of_lt l5
               have B5 := B4.trans (b5.mono B4.size)
               have lq := B5.size))
        all_goals
          first
            | (have F0 : Hid (F = []) := Lib.hid (List.eq_nil_of_length_eq_zero (by have h := E2.out.symm; rw [decide_eq_false_iff_not] at h; omega))
               go_wp2_with fail
               refine bodyPost_ret (v := .tuple #[.slice none 0 0, .bool false]) (by simp [results, Try.results27, go_sem]) rfl ?_
               rw [F0.out]
               exact ⟨none, 0, 0, [], rfl, own_none _, List.nodup_nil, by simp, (by first | (with_reducible exact six_below6 hge B5) | (with_reducible exact B5.alloc lq _))⟩)
            | (have F1 : 0 < F.length := by have h := E2.out.symm; rw [decide_eq_true_eq] at h; exact h
               have LC := Lib.hid (fun W => list_any F W F1 hFl)
               unfold ptV at LC
               go_wp2_with fail
               refine (LC.out _).mono ?_
               rintro e w6 ⟨v, rfl, o6, b6⟩
               obtain ⟨A4, c4, rfl, _, _⟩ := own_form o6
               obtain ⟨fp, om, nd, lo⟩ := mem_ints o6 (by unfold maxLen; omega)
               have BB := bb_of b6 (by first | (with_reducible exact six_below6 hge B5) | (with_reducible exact B5.alloc lq _))
               go_wp2_with fail
               refine bodyPost_ret (v := .tuple #[.slice A4 F.length c4, .bool true]) (by simp [results, Try.results27, go_sem]) rfl ?_
               exact ⟨A4, _, c4, fp, rfl, om, nd, fun x hx => Nat.le_trans BB.size (lo x hx), BB.trans (b6.mono BB.size)⟩)
end Go.Proofs.Ytpaagplopefklaa
