/- spec.KindsOf and both TermsValid. -/
import Derived.Test.YtmlhnnkdecabpaaDoorSpecKinds2
namespace Go.Proofs.YtmlhnnkdecabpaaDoor
open Go.RowKit

set_option maxHeartbeats 1000000 in
theorem kindsOf_spec (A : Option Addr) (n c : Nat) (l : List Tm) (vars : Int) (w : World) (h : Rd w w.heap.size 4 A n (tms l)) (hn : n ≤ maxLen) :
    Calls Tryd.prog 73 #[.slice A n c, .int .i64 vars] w (GivesInts w (kindsOf l vars)) := by
  unfold maxLen at hn
  cases g1 : inB vars 0 5
  · have e : kindsOf l vars = [] := by
      unfold kindsOf
      rw [if_neg (by rw [inB_not] at g1; simp [sizesOk]; omega)]
    rw [e]
    clear e h
    go_enter Tryd.func73, Tryd.ntmps73
    go_wp2_with (first | (go_at_call 70; refine (l1In_any _ _ _ _).mono ?_; rintro e w' ⟨rfl, rfl⟩))
    go_ret; exact ⟨_, rfl, World.ownsRow_nil _ _ _ _, Below.refl _ _⟩
  cases g2 : inB n 1 40
  · have e : kindsOf l vars = [] := by
      unfold kindsOf
      rw [h.tlen, if_neg (by rw [inB_not] at g2; simp [sizesOk]; omega)]
    rw [e]
    clear e h
    go_enter Tryd.func73, Tryd.ntmps73
    go_wp2_with (first | (go_at_call 70; refine (l1In_any _ _ _ _).mono ?_; rintro e w' ⟨rfl, rfl⟩))
    go_ret; exact ⟨_, rfl, World.ownsRow_nil _ _ _ _, Below.refl _ _⟩
  · have hv := inB_iff.1 g1
    have hs := inB_iff.1 g2
    go_enter Tryd.func73, Tryd.ntmps73
    go_wp2_with (first | (go_at_call 70; refine (l1In_any _ _ _ _).mono ?_; rintro e w' ⟨rfl, rfl⟩))
    have hown0 := World.ownsRow_lit (base := w.heap.size) (e := 3) (size := 1) w #[] 0 (Nat.le_refl _) (by unfold maxLen; omega) rfl
    go_loopg [5, 6] n (fun m v i wr => ∃ (k : Nat) (ks : List Int), k + m = n ∧ i = .int .i64 k ∧ Hid (kindsTo l vars k = some ks) ∧ wr.ownsRow w.heap.size 3 1 v k (ints ks) ∧ Below w.heap.size w wr)
    case atStart => exact ⟨0, [], by omega, rfl, Lib.hid rfl, hown0, below_alloc _ _⟩
    case round =>
      obtain ⟨k, ks, hk, rfl, hto, hown', hb⟩ := hrel
      clear hown0
      by_cases hlt : k < n
      · obtain ⟨A', c', rfl, _, hR⟩ := own_form hown'
        obtain ⟨ad, rfl, _, h0, h1, h2, h3⟩ := (h.below hb).tm hlt
        have HR := Lib.hid hR; clear hR
        cases hz : kind (tx l k) ks vars == 0
        · go_wp2_with (first
            | (go_at_call 97; refine (l1Kind_any (tx l k) A' k c' ks vars _ HR.out (by omega) (by omega) (by omega)).mono ?_; rintro e w2 ⟨rfl, hb2⟩)
            | (at_builtin; refine app_int rfl _ _ rfl w.heap.size _ k ks _ rfl (own_below hown' hb2) rfl (by omega) (by have := hb.size; have := hb2.size; omega) ?_; intro v' w3 hown3 hb4))
          have hf : kindsTo l vars (k + 1) = some (ks ++ [kind (tx l k) ks vars]) := by
            simp only [kindsTo, hto.out]; rw [if_neg (by simpa using hz)]
          go_roundg (n - (k + 1))
          case measure => omega
          case rel => exact ⟨k + 1, _, by omega, by go_num, Lib.hid hf, hown3, (hb.trans (hb2.mono hb.size)).trans hb4⟩
        · have hf : kindsTo l vars (k + 1) = none := by
            simp only [kindsTo, hto.out]; rw [if_pos (by simpa using hz)]
          have HF := Lib.hid hf; clear hf
          go_wp2_with (first
            | (go_at_call 97; refine (l1Kind_any (tx l k) _ k c' ks vars _ HR.out (by omega) (by omega) (by omega)).mono ?_; rintro e w2 ⟨rfl, hb2⟩))
          go_ret
          have e : kindsOf l vars = [] := by unfold kindsOf; rw [kindsTo_none HF.out _ (by rw [h.tlen]; omega)]; simp
          rw [e]
          exact ⟨_, rfl, World.ownsRow_nil _ _ _ _, hb.trans (hb2.mono hb.size)⟩
      · obtain rfl : k = n := by omega
        go_wp2
        go_ret
        have e : kindsOf l vars = ks := by
          unfold kindsOf
          rw [if_pos (by rw [h.tlen]; simp [sizesOk]; omega), h.tlen, hto.out]; rfl
        rw [e]
        exact ⟨_, rfl, by rw [kindsTo_len hto.out]; exact hown', hb⟩

end Go.Proofs.YtmlhnnkdecabpaaDoor
