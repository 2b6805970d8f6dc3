/- The first rule between two states: plain, and of the model. -/
import Derived.Test.YtpaagplopefklaaBtw
namespace Go.Proofs.Ytpaagplopefklaa
open Go.RowKit

/-- The first number below n that hits, or -1. -/
def firstHit (hit : Nat → Bool) : Nat → Int
  | 0 => -1
  | k + 1 => if firstHit hit k ≠ -1 then firstHit hit k else if hit k = true then k else -1
theorem firstHit_none {hit : Nat → Bool} : ∀ {n : Nat}, (∀ j, j < n → hit j = false) → firstHit hit n = -1
  | 0, _ => rfl
  | n + 1, h => by
    unfold firstHit
    rw [firstHit_none fun j hj => h j (by omega), if_neg (by simp), if_neg (by simp [h n (by omega)])]
theorem firstHit_at {hit : Nat → Bool} {k : Nat} (hk : hit k = true) (hj : ∀ j, j < k → hit j = false) : ∀ {n : Nat}, k < n → firstHit hit n = k
  | 0, h => by omega
  | n + 1, h => by
    unfold firstHit
    by_cases e : k < n
    · rw [firstHit_at hk hj e, if_pos (by omega)]
    · obtain rfl : k = n := by omega
      rw [firstHit_none hj, if_neg (by simp), if_pos hk]
def hitB (s : Sy) (a b : List Int) (k : Nat) : Bool := useB s a k && decide (useL s a k = b)
def ruleBtw (s : Sy) (a b : List Int) : Int := if inRangeB s a then firstHit (hitB s a b) s.rules.length else -1
theorem hit_no {s : Sy} {a b : List Int} {k : Nat} (h : useB s a k = false) : hitB s a b k = false := by unfold hitB; rw [h]; rfl
theorem hit_ne {s : Sy} {a b : List Int} {k : Nat} (h : decide (useL s a k = b) = false) : hitB s a b k = false := by unfold hitB; rw [h]; simp
theorem hit_yes {s : Sy} {a b : List Int} {k : Nat} (h : useB s a k = true) (h2 : decide (useL s a k = b) = true) : hitB s a b k = true := by unfold hitB; rw [h, h2]; rfl
theorem use_has {s : Sy} {st : List Int} {k : Nat} (h : useB s st k = true) : hasB s.vars (useL s st k) = true := by
  unfold useB at h
  rw [decide_eq_true_eq] at h
  unfold useL useR at h ⊢
  by_cases z : valB (el s.rules k).cond st = 0
  · rw [if_pos z] at h; simp at h
  · rw [if_neg z] at h ⊢
    by_cases z2 : hasB s.vars (madeTo (el s.rules k) st (el s.rules k).sets.length) = true
    · rw [if_pos z2]; exact z2
    · rw [if_neg z2] at h; simp at h
theorem no_hits {s : Sy} {a b : List Int} (h : hasB s.vars b = false) (n : Nat) : firstHit (hitB s a b) n = -1 := firstHit_none fun j _ => by
  cases hu : useB s a j
  · exact hit_no hu
  · refine hit_ne (decide_eq_false fun e => ?_)
    have := use_has hu
    rw [e, h] at this
    cases this

set_option maxRecDepth 100000 in
set_option maxHeartbeats 4000000 in
theorem btw_spec' (s : Sy) (a b : List Int) (A1 : Option Addr) (n1 c1 : Nat) (A2 : Option Addr) (n2 c2 : Nat) (A3 : Option Addr) (n3 c3 : Nat) (A4 : Option Addr) (n4 c4 : Nat) (w : World) (h1 : Mem.rd w w.heap.size [.slice A1 n1 c1] s.vars) (h2 : Mem.rd w w.heap.size [.slice A2 n2 c2] s.rules) (h3 : Mem.rd w w.heap.size [.slice A3 n3 c3] a) (h4 : Mem.rd w w.heap.size [.slice A4 n4 c4] b)
    (ok : SysOk s) (hin : hasB s.vars a = true) :
    Calls Try.prog 69 #[.agg #[.slice A1 n1 c1, .slice A2 n2 c2], .slice A3 n3 c3, .slice A4 n4 c4] w (GivesInt w (firstHit (hitB s a b) s.rules.length)) := by
  have BX := Lib.hid (sy_box (w := w) (v1 := .slice A1 n1 c1) (v2 := .slice A2 n2 c2))
  have L2 := rd_len h2
  rw [L2]
  have hn2 : n2 ≤ 8 := by have := ok.most; omega
  have hst : a.length ≤ 5 := by have := has_len hin; have := ok.hi; omega
  have m4 := rd_max h4
  obtain ⟨F, hF⟩ : ∃ F, F = firstHit (hitB s a b) n2 := ⟨_, rfl⟩
  rw [← hF]
  have UC := Lib.hid (fun k (hk : k < n2) w (h1 : Mem.rd w w.heap.size [.slice A1 n1 c1] s.vars) h2 h3 => l2Use_any s a k A1 n1 c1 A2 n2 c2 A3 n3 c3 w h1 h2 h3 ok hin (by omega))
  have UL := Lib.hid (fun k => useL_len s a k)
  have HN := Lib.hid (fun (q : ∀ j, j < n2 → hitB s a b j = false) => hF.trans (firstHit_none q))
  have HY := Lib.hid (fun k (hk : k < n2) (h : hitB s a b k = true) (q : ∀ j, j < k → hitB s a b j = false) => hF.trans (firstHit_at h q hk))
  clear hF L2
  go_enter Try.func69, Try.ntmps69
  go_wp2
  go_loopg [7, 8] n2 (fun m i i8 wr => ∃ k : Nat, k + m = n2 ∧ i = .int .i64 k ∧ Hid (∀ j, j < k → hitB s a b j = false) ∧ Below (w.alloc (.cells #[.slice A1 n1 c1, .slice A2 n2 c2] 31)).heap.size (w.alloc (.cells #[.slice A1 n1 c1, .slice A2 n2 c2] 31)) wr)
  case atStart => exact ⟨0, by omega, rfl, Lib.hid (fun j hj => absurd hj (by omega)), Below.refl _ _⟩
  case round =>
    obtain ⟨k, hk, rfl, hj, hb⟩ := hrel
    obtain ⟨B, x0, x1⟩ := BX.out _ hb
    by_cases hlt : k < n2
    · have UK := Lib.hid (UC.out k hlt wr (Mem.rd_on h1 B) (Mem.rd_on h2 B) (Mem.rd_on h3 B))
      obtain ⟨U, hU⟩ : ∃ U, U = useL s a k := ⟨_, rfl⟩
      have hUl := UL.out k
      rw [← hU] at UK hUl
      have HU := Lib.hid hU
      obtain ⟨q, hq⟩ : ∃ q : Nat, q = U.length := ⟨_, rfl⟩
      have HQ := Lib.hid hq
      have hq5 : q ≤ 5 := by omega
      clear hq hU hUl
      by_cases hu : 0 < q
      · cases he : decide (U = b)
        all_goals
          have HE := Lib.hid he; clear he
          go_wp2_with fail
          refine (UK.out).mono ?_
          rintro e w3 ⟨v3, rfl, o3, b3⟩
          rw [← HQ.out] at o3
          obtain ⟨A5, c5, rfl, _, r5⟩ := own_form o3
          have hb3 := hb.trans (b3.mono hb.size)
          have B3 := B.trans (b3.mono B.size)
          clear o3
          go_wp2_with fail
          refine (l2Same_any A5 q c5 A4 n4 c4 U b w3 r5 (rd_ints.1 (Mem.rd_on h4 B3)).2 (by unfold maxLen; omega) m4).mono ?_
          rintro e w4 ⟨rfl, b4⟩
          rw [HE.out]
          have hb4 := hb3.trans (b4.mono hb3.size)
          go_wp2
        · have HX : Hid (∀ j, j < k + 1 → hitB s a b j = false) := Lib.hid fun j hjk => by
            by_cases z : j < k
            · exact hj.out j z
            · obtain rfl : j = k := by omega
              exact hit_ne (by rw [← HU.out]; exact HE.out)
          go_roundg (n2 - (k + 1))
          case measure => omega
          case rel => exact ⟨k + 1, by omega, by go_num, HX, hb4⟩
        · have HX : Hid (F = k) := Lib.hid (HY.out k hlt (hit_yes (by unfold useB; rw [← HU.out, ← HQ.out]; exact decide_eq_true hu) (by rw [← HU.out]; exact HE.out)) hj.out)
          go_ret
          exact ⟨(congrArg (fun z => Ending.returned (.int .i64 z)) HX.out).symm, B3.trans (b4.mono B3.size)⟩
      · have HX : Hid (∀ j, j < k + 1 → hitB s a b j = false) := Lib.hid fun j hjk => by
          by_cases z : j < k
          · exact hj.out j z
          · obtain rfl : j = k := by omega
            exact hit_no (by unfold useB; rw [← HU.out, ← HQ.out]; exact decide_eq_false hu)
        obtain rfl : q = 0 := by omega
        go_wp2_with fail
        refine (UK.out).mono ?_
        rintro e w3 ⟨v3, rfl, o3, b3⟩
        rw [← HQ.out] at o3
        obtain ⟨A5, c5, rfl, _, r5⟩ := own_form o3
        have hb3 := hb.trans (b3.mono hb.size)
        clear o3 r5
        go_wp2
        go_roundg (n2 - (k + 1))
        case measure => omega
        case rel => exact ⟨k + 1, by omega, by go_num, HX, hb3⟩
    · obtain rfl : k = n2 := by omega
      have HX := Lib.hid (HN.out hj.out)
      go_wp2
      go_ret
      exact ⟨(congrArg (fun z => Ending.returned (.int .i64 z)) HX.out).symm, B⟩

set_option maxRecDepth 100000 in
set_option maxHeartbeats 2000000 in
theorem between_spec (s : Sy) (a b : List Int) (A1 : Option Addr) (n1 c1 : Nat) (A2 : Option Addr) (n2 c2 : Nat) (A3 : Option Addr) (n3 c3 : Nat) (A4 : Option Addr) (n4 c4 : Nat) (w : World) (h1 : Mem.rd w w.heap.size [.slice A1 n1 c1] s.vars) (h2 : Mem.rd w w.heap.size [.slice A2 n2 c2] s.rules) (h3 : Mem.rd w w.heap.size [.slice A3 n3 c3] a) (h4 : Mem.rd w w.heap.size [.slice A4 n4 c4] b) :
    Calls Try.prog 39 #[.agg #[.slice A1 n1 c1, .slice A2 n2 c2], .slice A3 n3 c3, .slice A4 n4 c4] w (GivesInt w (ruleBtw s a b)) := by
  have BX := Lib.hid (sy_box (w := w) (v1 := .slice A1 n1 c1) (v2 := .slice A2 n2 c2))
  have SV := Lib.hid (fun o => inRange_spec s a A1 n1 c1 A2 n2 c2 A3 n3 c3 (w.alloc o) (Mem.rd_on_alloc h1 o) (Mem.rd_on_alloc h2 o) (Mem.rd_on_alloc h3 o))
  cases hz : inRangeB s a
  · have E1 : Hid (ruleBtw s a b = -1) := Lib.hid (by unfold ruleBtw; rw [hz]; rfl)
    have HZ := Lib.hid hz; clear hz
    go_enter Try.func39, Try.ntmps39
    go_wp2_with fail
    refine (SV.out _).mono ?_
    rintro e w2 ⟨rfl, b2⟩
    rw [HZ.out]
    go_wp2
    go_ret
    exact ⟨(congrArg (fun z => Ending.returned (.int .i64 z)) E1.out).symm, below_call b2⟩
  · obtain ⟨ok, hin⟩ := inRange_parts hz
    have E1 : Hid (ruleBtw s a b = firstHit (hitB s a b) s.rules.length) := Lib.hid (by unfold ruleBtw; rw [hz]; rfl)
    have HZ := Lib.hid hz; clear hz
    cases hb : hasB s.vars b
    · have E2 : Hid (ruleBtw s a b = -1) := Lib.hid (by rw [E1.out]; exact no_hits hb _)
      have HB := Lib.hid hb; clear hb
      go_enter Try.func39, Try.ntmps39
      go_wp2_with fail
      refine (SV.out _).mono ?_
      rintro e w2 ⟨rfl, b2⟩
      rw [HZ.out]
      obtain ⟨B2, x0, x1⟩ := BX.out _ b2
      go_wp2_with fail
      refine (l2In_any s b A1 n1 c1 A2 n2 c2 A4 n4 c4 w2 (Mem.rd_on h1 B2) (Mem.rd_on h4 B2)).mono ?_
      rintro e w3 ⟨rfl, b3⟩
      rw [HB.out]
      go_wp2
      go_ret
      exact ⟨(congrArg (fun z => Ending.returned (.int .i64 z)) E2.out).symm, B2.trans (b3.mono B2.size)⟩
    · have HB := Lib.hid hb; clear hb
      go_enter Try.func39, Try.ntmps39
      go_wp2_with fail
      refine (SV.out _).mono ?_
      rintro e w2 ⟨rfl, b2⟩
      rw [HZ.out]
      obtain ⟨B2, x0, x1⟩ := BX.out _ b2
      go_wp2_with fail
      refine (l2In_any s b A1 n1 c1 A2 n2 c2 A4 n4 c4 w2 (Mem.rd_on h1 B2) (Mem.rd_on h4 B2)).mono ?_
      rintro e w3 ⟨rfl, b3⟩
      rw [HB.out]
      have b23 := b2.trans (b3.mono b2.size)
      clear x0 x1
      obtain ⟨B3, x0, x1⟩ := BX.out _ b23
      go_wp2_with fail
      refine (btw_spec' s a b A1 n1 c1 A2 n2 c2 A3 n3 c3 A4 n4 c4 w3 (Mem.rd_on h1 B3) (Mem.rd_on h2 B3) (Mem.rd_on h3 B3) (Mem.rd_on h4 B3) ok hin).mono ?_
      rintro e w4 ⟨rfl, b4⟩
      go_wp2
      go_ret
      exact ⟨(congrArg (fun z => Ending.returned (.int .i64 z)) E1.out).symm, B3.trans (b4.mono B3.size)⟩
end Go.Proofs.Ytpaagplopefklaa
