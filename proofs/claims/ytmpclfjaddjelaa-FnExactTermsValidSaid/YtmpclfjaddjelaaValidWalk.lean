/- The law FnExactTermsValid, walked: it returns true and changes nothing that was there. -/
import Derived.Test.YtmpclfjaddjelaaSpecKinds3
import Derived.Test.YtmpclfjaddjelaaLaw2
namespace Go.Proofs.Ytmpclfjaddjelaa
open Go.RowKit

theorem law_big (A : Option Addr) (n c : Nat) (vars : Int) (w : World) (hn : n ≤ maxLen) (hb : 1048576 < n) :
    Calls Try.prog 8 #[.slice A n c, .int .i64 vars] w (GivesBool w true) := by
  go_enter Try.func8, Try.ntmps8
  go_wp2_with fail
  refine (szTermS_any A n c 1048576 hn (by omega) (by omega) _).mono ?_
  rintro e w' ⟨rfl, rfl⟩
  rw [if_pos (by omega)]
  go_wp2
  go_ret
  exact ⟨rfl, Below.refl _ _⟩

set_option maxHeartbeats 1000000 in
theorem law_valid (A : Option Addr) (n c : Nat) (l : List Tm) (vars : Int) (w : World) (h : Rd w w.heap.size 4 A n (tms l)) (hn : n ≤ maxLen) :
    Calls Try.prog 8 #[.slice A n c, .int .i64 vars] w (GivesBool w true) := by
  by_cases hb : 1048576 < n
  · exact law_big A n c vars w hn hb
  have hl := Lib.hid h.tlen
  have hn' : n ≤ 1048576 := by omega
  clear hb
  go_enter Try.func8, Try.ntmps8
  go_wp2_with fail
  refine (szTermS_any A n c 1048576 hn (by omega) (by omega) _).mono ?_
  rintro e w' ⟨rfl, rfl⟩
  rw [if_neg (by omega)]
  go_wp2_with fail
  refine (toTermS_any A n c l _ h hn').mono ?_
  rintro e w1 ⟨v1, rfl, own1, b1⟩
  rw [hl.out] at own1
  obtain ⟨A1, c1, rfl, _, r1⟩ := own_form own1
  go_wp2_with fail
  refine (valid_spec A1 n c1 l vars _ r1 hn).mono ?_
  rintro e w2 ⟨rfl, b2⟩
  have B2 := b1.trans (b2.mono b1.size)
  go_wp2_with fail
  refine (toTermS_any A n c l _ ((h.below B2).more B2.size) hn').mono ?_
  rintro e w3 ⟨v3, rfl, own3, b3⟩
  have B3 := B2.trans (b3.mono B2.size)
  rw [hl.out] at own3
  obtain ⟨A3, c3, rfl, _, r3⟩ := own_form own3
  go_wp2_with fail
  refine (valid_impl A3 n c3 l vars _ r3 hn).mono ?_
  rintro e w4 ⟨rfl, b4⟩
  have B4 := B3.trans (b4.mono B3.size)
  cases hv : validB l vars
  all_goals
    go_wp2_with fail
    refine (toTermS_any A n c l _ ((h.below B4).more B4.size) hn').mono ?_
    rintro e w5 ⟨v5, rfl, own5, b5⟩
    have B5 := B4.trans (b5.mono B4.size)
    rw [hl.out] at own5
    obtain ⟨A5, c5, rfl, _, r5⟩ := own_form own5
    go_wp2_with fail
    refine (eqTermS_same A3 A5 n c3 c5 l _ (((r3.below b4).more b4.size |>.below b5).more b5.size) r5 hn').mono ?_
    rintro e w6 ⟨rfl, b6⟩
    have B6 := B5.trans (b6.mono B5.size)
    go_wp2
    go_ret
    exact ⟨rfl, B6⟩
end Go.Proofs.Ytmpclfjaddjelaa
