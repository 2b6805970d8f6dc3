/- Bits: the model's functions. -/
import Derived.Test.YtffkdmaedojcjaaBitS
import Derived.Test.YtffkdmaedojcjaaIl
namespace Go.Proofs.Ytffkdmaedojcjaa
open Go.RowKit

theorem stBits_len (l : List Vr) (st : List Int) : (stBits l st).length = widTo l l.length := bitsN_len _ _

theorem pow_shl {m : Nat} (h : m ≤ 12) : IntKind.i64.wrap ((2 : Int) ^ m) = ((2 ^ m : Nat) : Int) ∧ 2 ^ m ≤ 4096 := by
  have h2 : 2 ^ m ≤ 2 ^ 12 := Nat.pow_le_pow_right (by omega) h
  have hp : (2 : Int) ^ m = ((2 ^ m : Nat) : Int) := by simp
  rw [hp]
  generalize 2 ^ m = X at h2 ⊢
  exact ⟨IntWalk.i64_in _ (by omega), h2⟩

set_option maxRecDepth 100000 in
theorem valueBits_spec (n many : Int) (w : World) : Calls Try.prog 7 #[.int .i64 n, .int .i64 many] w (GivesL w (valueBitsB n many)) := by
  obtain ⟨F, hF⟩ : ∃ F, F = valueBitsB n many := ⟨_, rfl⟩
  rw [← hF]
  unfold valueBitsB at hF
  cases hi : inB many 0 12
  · have E : Hid (F = []) := Lib.hid (by
      unfold inB at hi
      rw [hF, hi]; rfl)
    have HI := Lib.hid hi
    clear hF hi
    go_enter Try.func7, Try.ntmps7
    go_wp2_with fail
    refine (l1In_any _ _ _ _).mono ?_
    rintro e w3 ⟨rfl, rfl⟩
    rw [HI.out]
    go_wp2
    go_ret
    rw [E.out]
    exact ⟨none, 0, 0, [], rfl, own_none _, List.nodup_nil, by simp, Below.refl _ _⟩
  · have hm : 0 ≤ many ∧ many ≤ 12 := by unfold inB at hi; simp at hi; omega
    obtain ⟨m, rfl⟩ : ∃ m : Nat, many = m := ⟨many.toNat, by omega⟩
    have hm12 : m ≤ 12 := by omega
    obtain ⟨hsh, h4⟩ := pow_shl hm12
    have HI := Lib.hid hi
    unfold inB at hi
    rw [hi, Int.toNat_natCast] at hF
    clear hi hm
    by_cases q : n < 0
    · have E : Hid (F = []) := Lib.hid (by rw [hF, decide_eq_false (show ¬ 0 ≤ n by omega)]; rfl)
      clear hF
      go_enter Try.func7, Try.ntmps7
      go_wp2_with fail
      refine (l1In_any _ _ _ _).mono ?_
      rintro e w3 ⟨rfl, rfl⟩
      rw [HI.out]
      go_wp2
      go_ret
      rw [E.out]
      exact ⟨none, 0, 0, [], rfl, own_none _, List.nodup_nil, by simp, Below.refl _ _⟩
    · by_cases q2 : ((2 ^ m : Nat) : Int) ≤ n
      · have E : Hid (F = []) := Lib.hid (by rw [hF, decide_eq_false (show ¬ n < ((2 ^ m : Nat) : Int) by omega)]; simp)
        clear hF
        generalize (2 ^ m : Nat) = X at *
        have hm64 : m ≤ 64 := by omega
        go_enter Try.func7, Try.ntmps7
        go_wp2_with fail
        refine (l1In_any _ _ _ _).mono ?_
        rintro e w3 ⟨rfl, rfl⟩
        rw [HI.out]
        go_wp2
        go_ret
        rw [E.out]
        exact ⟨none, 0, 0, [], rfl, own_none _, List.nodup_nil, by simp, Below.refl _ _⟩
      · obtain ⟨N, rfl⟩ : ∃ N : Nat, n = N := ⟨n.toNat, by omega⟩
        have E : Hid (F = bitsN N m) := Lib.hid (by rw [hF, decide_eq_true (show (0 : Int) ≤ N by omega), decide_eq_true (show (N : Int) < ((2 ^ m : Nat) : Int) by omega)]; simp)
        have VC := Lib.hid (fun W => l6Value_any N m W hm12 (by omega))
        clear hF
        generalize (2 ^ m : Nat) = X at *
        have hm64 : m ≤ 64 := by omega
        go_enter Try.func7, Try.ntmps7
        go_wp2_with fail
        refine (l1In_any _ _ _ _).mono ?_
        rintro e w3 ⟨rfl, rfl⟩
        rw [HI.out]
        go_wp2_with fail
        refine (VC.out _).mono ?_
        rintro e w5 g5
        obtain ⟨v5, rfl, o5, b5⟩ := g5
        go_wp2
        go_ret
        rw [E.out]
        exact givesL_of ⟨v5, rfl, o5, b5⟩ (by rw [bitsN_len]; unfold maxLen; omega)
end Go.Proofs.Ytffkdmaedojcjaa
