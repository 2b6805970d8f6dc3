/- Eval, of the program and of the model. -/
import Derived.Test.YthlkbkomecnbaaaEvalS2
import Derived.Test.YthlkbkomecnbaaaSpecKinds4
namespace Go.Proofs.Ythlkbkomecnbaaa
open Go.RowKit

set_option maxHeartbeats 1000000 in
theorem areNumbers_any (A : Option Addr) (n c : Nat) (l : List Int) (w : World) (h : Rd w w.heap.size 1 A n (ints l)) (hn : n ≤ maxLen) :
    Calls Try.prog 116 #[.slice A n c] w fun e w' => e = .returned (.bool (numsB l)) ∧ w = w' := by
  unfold maxLen at hn
  have hl := Lib.hid h.len
  go_enter Try.func116, Try.ntmps116
  go_wp2
  go_loopg [7] n (fun m i wr => ∃ k : Nat, k + m = n ∧ i = .int .i64 k ∧ Hid (∀ j, j < k → inB (ix l j) (-9999) 9999 = true) ∧ w = wr)
  case atStart => exact ⟨0, by omega, rfl, Lib.hid (fun j hj => absurd hj (by omega)), rfl⟩
  case round =>
    obtain ⟨k, hk, rfl, hto, rfl⟩ := hrel
    by_cases hlt : k < n
    · obtain ⟨ad, rfl, _, h0⟩ := h.int hlt
      cases hz : inB (ix l k) (-9999) 9999
      · have HZ := Lib.hid hz
        go_wp2_with (first | (go_at_call 148; refine (isNumber_any _ _).mono ?_; rintro e w' ⟨rfl, rfl⟩))
        go_ret
        rw [nums_false (by rw [hl.out]; exact hlt) HZ.out]
        exact ⟨rfl, rfl⟩
      · have HZ := Lib.hid hz
        go_wp2_with (first | (go_at_call 148; refine (isNumber_any _ _).mono ?_; rintro e w' ⟨rfl, rfl⟩))
        go_roundg (n - (k + 1))
        case measure => omega
        case rel =>
          refine ⟨k + 1, by omega, by go_num, Lib.hid (fun j hj => ?_), rfl⟩
          by_cases e : j < k
          · exact hto.out j e
          · obtain rfl : j = k := by omega
            exact HZ.out
    · obtain rfl : k = n := by omega
      go_wp2
      go_ret
      rw [nums_true (by rw [hl.out]; exact hto.out)]
      exact ⟨rfl, rfl⟩


/-- The value of an expression in a state, and whether there is one. -/
def evalOk (l : List Tm) (st : List Int) : Bool := numsB st && validB l st.length
def evalB (l : List Tm) (st : List Int) : Int := if evalOk l st then ix (valsTo l st l.length) (l.length - 1) else 0
theorem valid_kinds {l : List Tm} {vars : Int} (h : validB l vars = true) : sizesOk l.length vars = true ∧ ∃ ks, kindsTo l vars l.length = some ks := by
  unfold validB kindsOf at h
  by_cases hs : sizesOk l.length vars = true
  · rw [if_pos hs] at h
    refine ⟨hs, ?_⟩
    cases hk : kindsTo l vars l.length with
    | none => rw [hk] at h; simp at h
    | some ks => exact ⟨ks, rfl⟩
  · rw [if_neg hs] at h; simp at h

set_option maxHeartbeats 1000000 in
theorem l1State_any (A : Option Addr) (n c : Nat) (l : List Int) (w : World) (h : Rd w w.heap.size 1 A n (ints l)) (hn : n ≤ maxLen) :
    Calls Try.prog 82 #[.slice A n c] w fun e w' => e = .returned (.bool (numsB l)) ∧ w = w' := by
  unfold maxLen at hn
  have hl := Lib.hid h.len
  go_enter Try.func82, Try.ntmps82
  go_wp2
  go_loopg [3] n (fun m i wr => ∃ k : Nat, k + m = n ∧ i = .int .i64 k ∧ Hid (∀ j, j < k → inB (ix l j) (-9999) 9999 = true) ∧ w = wr)
  case atStart => exact ⟨0, by omega, rfl, Lib.hid (fun j hj => absurd hj (by omega)), rfl⟩
  case round =>
    obtain ⟨k, hk, rfl, hto, rfl⟩ := hrel
    by_cases hlt : k < n
    · obtain ⟨ad, rfl, _, h0⟩ := h.int hlt
      cases hz : inB (ix l k) (-9999) 9999
      · have HZ := Lib.hid hz
        go_wp2_with (first | (go_at_call 48; refine (l1In_any _ _ _ _).mono ?_; rintro e w' ⟨rfl, rfl⟩))
        go_ret
        rw [nums_false (by rw [hl.out]; exact hlt) HZ.out]
        exact ⟨rfl, rfl⟩
      · have HZ := Lib.hid hz
        go_wp2_with (first | (go_at_call 48; refine (l1In_any _ _ _ _).mono ?_; rintro e w' ⟨rfl, rfl⟩))
        go_roundg (n - (k + 1))
        case measure => omega
        case rel =>
          refine ⟨k + 1, by omega, by go_num, Lib.hid (fun j hj => ?_), rfl⟩
          by_cases e : j < k
          · exact hto.out j e
          · obtain rfl : j = k := by omega
            exact HZ.out
    · obtain rfl : k = n := by omega
      go_wp2
      go_ret
      rw [nums_true (by rw [hl.out]; exact hto.out)]
      exact ⟨rfl, rfl⟩
end Go.Proofs.Ythlkbkomecnbaaa
