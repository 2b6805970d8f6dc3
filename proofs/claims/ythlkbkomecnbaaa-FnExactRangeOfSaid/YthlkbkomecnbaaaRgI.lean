/- The ends of a term, in the program. -/
import Derived.Test.YthlkbkomecnbaaaRgP
namespace Go.Proofs.Ythlkbkomecnbaaa
open Go.RowKit
set_option maxRecDepth 100000

set_option maxHeartbeats 2000000 in
theorem areEnds_any (A : Option Addr) (n c : Nat) (A' : Option Addr) (n' c' : Nat) (lo hi : List Int) (w : World) (h : Rd w w.heap.size 1 A n (ints lo)) (h' : Rd w w.heap.size 1 A' n' (ints hi)) (hn : n ≤ maxLen) (hn' : n' ≤ maxLen) :
    Calls Try.prog 85 #[.slice A n c, .slice A' n' c'] w fun e w' => e = .returned (.bool (endsB lo hi)) ∧ w = w' := by
  have L := Lib.hid h.len
  have L' := Lib.hid h'.len
  have AN := Lib.hid (areNumbers_any A n c lo w h hn)
  have AN' := Lib.hid (areNumbers_any A' n' c' hi w h' hn')
  unfold maxLen at hn hn'
  by_cases e0 : n = n'
  · cases g1 : numsB lo
    · have hv : endsB lo hi = false := by unfold endsB; rw [g1]; simp
      rw [hv]
      rw [g1] at AN
      clear g1 hv h h'
      subst e0
      go_enter Try.func85, Try.ntmps85
      go_wp2_with fail
      refine AN.out.mono ?_
      rintro e w1 ⟨rfl, rfl⟩
      go_wp2
      go_ret
      exact ⟨rfl, rfl⟩
    cases g2 : numsB hi
    · have hv : endsB lo hi = false := by unfold endsB; rw [g2]; simp
      rw [hv]
      rw [g1] at AN
      rw [g2] at AN'
      clear g1 g2 hv h h'
      subst e0
      go_enter Try.func85, Try.ntmps85
      go_wp2_with fail
      refine AN.out.mono ?_
      rintro e w1 ⟨rfl, rfl⟩
      go_wp2_with fail
      refine AN'.out.mono ?_
      rintro e w1 ⟨rfl, rfl⟩
      go_wp2
      go_ret
      exact ⟨rfl, rfl⟩
    · have hv : endsB lo hi = leB lo hi := by unfold endsB; rw [g1, g2, L.out, L'.out, e0]; simp
      rw [hv]
      rw [g1] at AN
      rw [g2] at AN'
      clear g1 g2 hv
      subst e0
      go_enter Try.func85, Try.ntmps85
      go_wp2_with fail
      refine AN.out.mono ?_
      rintro e w1 ⟨rfl, rfl⟩
      go_wp2_with fail
      refine AN'.out.mono ?_
      rintro e w1 ⟨rfl, rfl⟩
      go_wp2
      go_loopg [24] n (fun m i wr => ∃ k : Nat, k + m = n ∧ i = .int .i64 k ∧ Hid (∀ j, j < k → ix lo j ≤ ix hi j) ∧ w = wr)
      case atStart => exact ⟨0, by omega, rfl, Lib.hid (fun j hj => absurd hj (by omega)), rfl⟩
      case round =>
        obtain ⟨k, hk, rfl, hto, rfl⟩ := hrel
        by_cases hlt : k < n
        · obtain ⟨ad, rfl, _, h0⟩ := h.int hlt
          obtain ⟨ad', rfl, _, h0'⟩ := h'.int hlt
          have X := Lib.hid (fun (z : ¬ ix lo k ≤ ix hi k) => leB_false (lo := lo) (hi := hi) (i := k) (by rw [L.out]; exact hlt) z)
          have Y : Hid (ix lo k ≤ ix hi k → ∀ j, j < k + 1 → ix lo j ≤ ix hi j) := Lib.hid (fun z j hj => by
            by_cases e : j < k
            · exact hto.out j e
            · obtain rfl : j = k := by omega
              exact z)
          generalize ix lo k = x at *
          generalize ix hi k = y at *
          by_cases z : y < x
          · go_wp2
            go_ret
            rw [X.out (by omega)]
            exact ⟨rfl, rfl⟩
          · go_wp2
            go_roundg (n - (k + 1))
            case measure => omega
            case rel => exact ⟨k + 1, by omega, by go_num, Lib.hid (Y.out (by omega)), rfl⟩
        · obtain rfl : k = n := by omega
          go_wp2
          go_ret
          rw [leB_true (by rw [L.out]; exact hto.out)]
          exact ⟨rfl, rfl⟩
  · have hv : endsB lo hi = false := by unfold endsB; rw [L.out, L'.out, decide_eq_false e0]; simp
    rw [hv]
    have ne : ((n : Int) != (n' : Int)) = true := by simp; omega
    clear hv h h'
    go_enter Try.func85, Try.ntmps85
    go_wp2
    go_ret
    exact ⟨rfl, rfl⟩

section
variable (ad : Addr) (c : Nat) (q : List Int) (w : World) (hc : ∀ j, j < 4 → w.cell? (ad.add j) = some (.int .i64 (ix q j)))
include hc
set_option maxHeartbeats 1000000 in
theorem min4_any : Calls Try.prog 150 #[.slice (some ad) 4 c] w fun e w' => e = .returned (.int .i64 (mnL q 3)) ∧ w = w' := by
  have c0 := hc 0 (by omega)
  rw [add_zero'] at c0
  have HC := Lib.hid hc
  clear hc
  go_enter Try.func150, Try.ntmps150
  go_wp2
  go_loopg [3, 4] 3 (fun g m i wr => ∃ k : Nat, k + g = 3 ∧ i = .int .i64 ((k + 1 : Nat) : Int) ∧ m = .int .i64 (mnL q k) ∧ w = wr)
  case atStart => exact ⟨0, by omega, rfl, rfl, rfl⟩
  case round =>
    clear c0
    obtain ⟨k, hk, rfl, rfl, rfl⟩ := hrel
    by_cases hlt : k < 3
    · have ck := HC.out (k + 1) (by omega)
      rw [add_pos ad (by omega)] at ck
      have S : Hid (mnL q (k + 1) = if ix q (k + 1) < mnL q k then ix q (k + 1) else mnL q k) := Lib.hid rfl
      generalize hm : mnL q k = m at *
      generalize hz : ix q (k + 1) = z at *
      by_cases hs : z < m
      · have S' : Hid (mnL q (k + 1) = z) := Lib.hid (by rw [S.out, if_pos hs])
        go_wp2
        all_goals
          go_roundg (3 - (k + 1))
          case measure => omega
          case rel => exact ⟨k + 1, by omega, by go_num, by rw [S'.out]; try (first | rfl | (congr 1; omega)), rfl⟩
      · have S' : Hid (mnL q (k + 1) = m) := Lib.hid (by rw [S.out, if_neg hs])
        go_wp2
        all_goals
          go_roundg (3 - (k + 1))
          case measure => omega
          case rel => exact ⟨k + 1, by omega, by go_num, by rw [S'.out]; try (first | rfl | (congr 1; omega)), rfl⟩
    · obtain rfl : k = 3 := by omega
      go_wp2
      go_ret
      exact ⟨rfl, rfl⟩
set_option maxHeartbeats 1000000 in
theorem max4_any : Calls Try.prog 151 #[.slice (some ad) 4 c] w fun e w' => e = .returned (.int .i64 (mxL q 3)) ∧ w = w' := by
  have c0 := hc 0 (by omega)
  rw [add_zero'] at c0
  have HC := Lib.hid hc
  clear hc
  go_enter Try.func151, Try.ntmps151
  go_wp2
  go_loopg [3, 4] 3 (fun g m i wr => ∃ k : Nat, k + g = 3 ∧ i = .int .i64 ((k + 1 : Nat) : Int) ∧ m = .int .i64 (mxL q k) ∧ w = wr)
  case atStart => exact ⟨0, by omega, rfl, rfl, rfl⟩
  case round =>
    clear c0
    obtain ⟨k, hk, rfl, rfl, rfl⟩ := hrel
    by_cases hlt : k < 3
    · have ck := HC.out (k + 1) (by omega)
      rw [add_pos ad (by omega)] at ck
      have S : Hid (mxL q (k + 1) = if mxL q k < ix q (k + 1) then ix q (k + 1) else mxL q k) := Lib.hid rfl
      generalize hm : mxL q k = m at *
      generalize hz : ix q (k + 1) = z at *
      by_cases hs : m < z
      · have S' : Hid (mxL q (k + 1) = z) := Lib.hid (by rw [S.out, if_pos hs])
        go_wp2
        all_goals
          go_roundg (3 - (k + 1))
          case measure => omega
          case rel => exact ⟨k + 1, by omega, by go_num, by rw [S'.out]; try (first | rfl | (congr 1; omega)), rfl⟩
      · have S' : Hid (mxL q (k + 1) = m) := Lib.hid (by rw [S.out, if_neg hs])
        go_wp2
        all_goals
          go_roundg (3 - (k + 1))
          case measure => omega
          case rel => exact ⟨k + 1, by omega, by go_num, by rw [S'.out]; try (first | rfl | (congr 1; omega)), rfl⟩
    · obtain rfl : k = 3 := by omega
      go_wp2
      go_ret
      exact ⟨rfl, rfl⟩
end
end Go.Proofs.Ythlkbkomecnbaaa
