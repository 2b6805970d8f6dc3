/- Circuits that are made: the maker's and, in the program. -/
import Derived.Test.YtnhjcokmajejcaaMkA
import Derived.Test.YtnhjcokmajejcaaMkX
namespace Go.Proofs.Ytnhjcokmajejcaa
open Go.RowKit
set_option maxRecDepth 100000

/-- The edge that the maker tells where there is none. -/
def edV (e : Int) : Int := if e < 0 then 0 else e
theorem contrary_any (e : Int) (w : World) (h0 : 0 ≤ e) (h1 : e < 2000) : Calls Try.prog 98 #[.int .i64 e] w fun r w' => r = .returned (.int .i64 (notE e)) ∧ w = w' := by
  obtain ⟨p, rfl⟩ := Int.eq_ofNat_of_zero_le h0
  have bx := bits_xor_i64_nat p 1 (by omega) (by omega)
  have e1 : ((p ^^^ 1 : Nat) : Int) = notE p := by
    rw [xor_bit p 1 (by omega), if_pos rfl]
    unfold notE
    rw [if_neg (by omega)]
    omega
  rw [e1] at bx
  have bx : bits BinOp.xor IntKind.i64 (p : Int) 1 = notE p := bx
  generalize notE (p : Int) = z at *
  clear e1
  go_enter Try.func98, Try.ntmps98
  go_wp2
  go_ret
  exact ⟨rfl, rfl⟩

set_option maxRecDepth 100000 in
set_option maxHeartbeats 2000000 in
theorem and_quick (s : Ci) (full : Bool) (a b lo hi : Int) (base g : Nat) (w : World) (hM : MkAt w base g s full) (l0 : 0 ≤ lo) (h2 : hi < 2000)
    (hs : (a = lo ∧ b = hi ∧ lo ≤ hi) ∨ (a = hi ∧ b = lo ∧ lo < hi)) (e : Int) (he : andR s lo hi = (s, e)) (hq : (lo = 0 ∨ (lo / 2 = hi / 2 ∧ lo ≠ hi)) ∨ (lo = 1 ∨ lo = hi)) :
    Calls Try.prog 58 #[.pointer (some ⟨g, 0, none⟩), .int .i64 a, .int .i64 b] w (GivesMk base g (andR s lo hi).1 (full || decide ((andR s lo hi).2 < 0)) (edV (andR s lo hi).2) w) := by
  have hi0 : 0 ≤ hi := by rcases hs with h | h <;> omega
  have he0 : 0 ≤ e := by
    unfold andR at he
    split at he
    · have := (Prod.mk.inj he).2; omega
    · split at he
      · have := (Prod.mk.inj he).2; omega
      · rename_i p q
        exact absurd hq (by rintro (z | z); exact p z; exact q z)
  rw [he]
  have z1 : (full || decide (e < 0)) = full := by rw [decide_eq_false (by omega)]; simp
  have z2 : edV e = e := if_neg (by omega)
  dsimp only
  rw [z1, z2]
  clear z1 z2
  have hn : notE hi = hi / 2 * 2 + 1 - hi % 2 := by unfold notE; rw [if_neg (by omega)]
  have CE := Lib.hid (fun x W (x0 : 0 ≤ x) (x1 : x < 2000) => contrary_any x W x0 x1)
  unfold andR at he
  by_cases q1 : lo = 0
  · rw [if_pos (.inl q1)] at he
    obtain rfl : (0 : Int) = e := (Prod.mk.inj he).2
    have g1 : (lo == 0) = true := by simp [q1]
    clear he hq q1 hn
    rcases hs with ⟨e1, e2, h⟩ | ⟨e1, e2, h⟩
    all_goals
      rw [e1, e2]
      clear e1 e2
      go_enter Try.func58, Try.ntmps58
      go_wp2_with (first | (go_at_call 98; refine (CE.out _ _ (by omega) (by omega)).mono ?_; rintro e w3 ⟨rfl, rfl⟩))
      all_goals
        first
          | (exfalso; omega)
          | (go_ret; exact ⟨rfl, hM, Below.refl _ _, FrameC.refl _ _⟩)
          | (exfalso; simp_all; done)
          | (exfalso; simp_all; omega)
  · have g1 : (lo == 0) = false := by simp [q1]
    by_cases q2 : lo / 2 = hi / 2 ∧ lo ≠ hi
    · rw [if_pos (.inr q2)] at he
      obtain rfl : (0 : Int) = e := (Prod.mk.inj he).2
      have g2 : (lo == notE hi) = true := by rw [hn]; simp; omega
      clear he hq
      rcases hs with ⟨e1, e2, h⟩ | ⟨e1, e2, h⟩
      all_goals
        rw [e1, e2]
        have hlt : lo < hi := by omega
        clear e1 e2 h q1 hn q2
        go_enter Try.func58, Try.ntmps58
        go_wp2_with (first | (go_at_call 98; refine (CE.out _ _ (by omega) (by omega)).mono ?_; rintro e w3 ⟨rfl, rfl⟩))
        all_goals
          first
            | (exfalso; omega)
            | (go_ret; exact ⟨rfl, hM, Below.refl _ _, FrameC.refl _ _⟩)
    · have q4 : lo = 1 ∨ lo = hi := by omega
      rw [if_neg (by omega), if_pos q4] at he
      obtain rfl : hi = e := (Prod.mk.inj he).2
      by_cases q5 : lo = hi
      · have g2 : (hi == notE hi) = false := by rw [hn]; simp; omega
        have g4 : (hi == hi) = true := by simp
        have g0 : (hi == 0) = false := by rw [← q5]; exact g1
        have ea : a = hi := by rcases hs with h | h <;> omega
        have eb : b = hi := by rcases hs with h | h <;> omega
        rw [ea, eb]
        clear he hq q1 hn q2 q4 hs ea eb g1 q5
        cases g3 : (hi == 1)
        all_goals
          go_enter Try.func58, Try.ntmps58
          go_wp2_with (first | (go_at_call 98; refine (CE.out _ _ (by omega) (by omega)).mono ?_; rintro e w3 ⟨rfl, rfl⟩))
          all_goals
            first
              | (exfalso; omega)
              | (go_ret; exact ⟨rfl, hM, Below.refl _ _, FrameC.refl _ _⟩)
      · have g2 : (lo == notE hi) = false := by rw [hn]; simp; omega
        have g3 : (lo == 1) = true := by simp; omega
        clear he hq
        rcases hs with ⟨e1, e2, h⟩ | ⟨e1, e2, h⟩
        all_goals
          rw [e1, e2]
          have hlt : lo < hi := by omega
          clear e1 e2 h q1 hn q2 q4 q5
          go_enter Try.func58, Try.ntmps58
          go_wp2_with (first | (go_at_call 98; refine (CE.out _ _ (by omega) (by omega)).mono ?_; rintro e w3 ⟨rfl, rfl⟩))
          all_goals
            first
              | (exfalso; omega)
              | (go_ret; exact ⟨rfl, hM, Below.refl _ _, FrameC.refl _ _⟩)
end Go.Proofs.Ytnhjcokmajejcaa
