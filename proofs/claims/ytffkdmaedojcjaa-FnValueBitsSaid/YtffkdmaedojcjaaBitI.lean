/- Bits: the program's functions. -/
import Derived.Test.YtffkdmaedojcjaaBitR
import Derived.Test.YtffkdmaedojcjaaBitT
namespace Go.Proofs.Ytffkdmaedojcjaa
open Go.RowKit

set_option maxRecDepth 100000 in
theorem valueBits_impl (n many : Int) (w : World) : Calls Try.prog 5 #[.int .i64 n, .int .i64 many] w (GivesL w (valueBitsB n many)) := by
  obtain ⟨F, hF⟩ : ∃ F, F = valueBitsB n many := ⟨_, rfl⟩
  rw [← hF]
  unfold valueBitsB at hF
  by_cases q0 : many < 0 ∨ 12 < many
  · have E : Hid (F = []) := Lib.hid (by
      rw [hF]
      rcases q0 with q | q
      · rw [decide_eq_false (show ¬ 0 ≤ many by omega)]; rfl
      · rw [decide_eq_false (show ¬ many ≤ 12 by omega)]; simp)
    clear hF
    rcases q0 with q | q
    · go_enter Try.func5, Try.ntmps5
      go_wp2
      go_ret
      rw [E.out]
      exact ⟨none, 0, 0, [], rfl, own_none _, List.nodup_nil, by simp, Below.refl _ _⟩
    · have q' : ¬ many < 0 := by omega
      go_enter Try.func5, Try.ntmps5
      go_wp2
      go_ret
      rw [E.out]
      exact ⟨none, 0, 0, [], rfl, own_none _, List.nodup_nil, by simp, Below.refl _ _⟩
  · obtain ⟨m, rfl⟩ : ∃ m : Nat, many = m := ⟨many.toNat, by omega⟩
    have hm12 : m ≤ 12 := by omega
    obtain ⟨hsh, h4⟩ := pow_shl hm12
    rw [decide_eq_true (show (0 : Int) ≤ m by omega), decide_eq_true (show (m : Int) ≤ 12 by omega), Int.toNat_natCast] at hF
    have hn0 : ¬ ((m : Int) < 0) := by omega
    have hn1 : ¬ (12 < (m : Int)) := by omega
    have hn2 : ¬ (12 < m) := by omega
    clear q0
    by_cases q : n < 0
    · have E : Hid (F = []) := Lib.hid (by rw [hF, decide_eq_false (show ¬ 0 ≤ n by omega)]; rfl)
      clear hF
      go_enter Try.func5, Try.ntmps5
      go_wp2
      go_ret
      rw [E.out]
      exact ⟨none, 0, 0, [], rfl, own_none _, List.nodup_nil, by simp, Below.refl _ _⟩
    · by_cases q2 : ((2 ^ m : Nat) : Int) ≤ n
      · have E : Hid (F = []) := Lib.hid (by rw [hF, decide_eq_false (show ¬ n < ((2 ^ m : Nat) : Int) by omega)]; simp)
        clear hF
        generalize (2 ^ m : Nat) = X at *
        have hm64 : m ≤ 64 := by omega
        go_enter Try.func5, Try.ntmps5
        go_wp2
        go_ret
        rw [E.out]
        exact ⟨none, 0, 0, [], rfl, own_none _, List.nodup_nil, by simp, Below.refl _ _⟩
      · obtain ⟨N, rfl⟩ : ∃ N : Nat, n = N := ⟨n.toNat, by omega⟩
        have E : Hid (F = bitsN N m) := Lib.hid (by rw [hF, decide_eq_true (show (0 : Int) ≤ N by omega), decide_eq_true (show (N : Int) < ((2 ^ m : Nat) : Int) by omega)]; simp)
        have WC := Lib.hid (fun W => with_any 0 0 N m W (by omega) (by omega) hm12 (by omega))
        rw [Nat.zero_mul, Nat.zero_add, Nat.zero_add] at WC
        have LC := Lib.hid (fun W => rwList_any N m W hm12 (by omega))
        clear hF
        generalize (2 ^ m : Nat) = X at *
        have hm64 : m ≤ 64 := by omega
        have hNX : ¬ (X ≤ N) := by omega
        unfold rwV at WC
        go_enter Try.func5, Try.ntmps5
        go_wp2_with fail
        refine (WC.out _).mono ?_
        rintro e w4 ⟨rfl, b4⟩
        go_wp2_with fail
        refine (LC.out _).mono ?_
        rintro e w5 g5
        obtain ⟨v5, rfl, o5, b5⟩ := g5
        go_wp2
        go_ret
        rw [E.out]
        exact givesL_of ⟨v5, rfl, own_lower o5 b4.size, b4.trans (b5.mono b4.size)⟩ (by rw [bitsN_len]; unfold maxLen; omega)
end Go.Proofs.Ytffkdmaedojcjaa
