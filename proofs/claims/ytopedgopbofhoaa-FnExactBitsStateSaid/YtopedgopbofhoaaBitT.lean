/- Bits: the model's functions. -/
import Derived.Test.YtopedgopbofhoaaBitS
import Derived.Test.YtopedgopbofhoaaIl
namespace Go.Proofs.Ytopedgopbofhoaa
open Go.RowKit

theorem stBits_len (l : List Vr) (st : List Int) : (stBits l st).length = widTo l l.length := bitsN_len _ _

theorem bitsValue_spec (l : List Int) (A : Option Addr) (n c : Nat) (w : World) (h : Mem.rd w w.heap.size [.slice A n c] l) :
    Calls Try.prog 15 #[.slice A n c] w (GivesInt w (bitsValB l)) := by
  have L := rd_len h
  have hm := rd_max h
  unfold maxLen at hm
  have AR := Lib.hid (fun W (B : Below w.heap.size w W) => l6Are_any A n c l W (Mem.rd_on h B))
  obtain ⟨F, hF⟩ : ∃ F, F = bitsValB l := ⟨_, rfl⟩
  rw [← hF]
  unfold bitsValB at hF
  rw [L] at hF
  by_cases q : 12 < n
  · have E : Hid (F = -1) := Lib.hid (by rw [hF, decide_eq_false (by omega)]; rfl)
    clear hF
    go_enter Try.func15, Try.ntmps15
    go_wp2
    go_ret
    exact ⟨congrArg (fun z => Ending.returned (.int .i64 z)) E.out.symm, Below.refl _ _⟩
  · cases ha : areB l
    · have E : Hid (F = -1) := Lib.hid (by rw [hF, ha]; simp)
      have HA := Lib.hid ha
      clear hF ha
      go_enter Try.func15, Try.ntmps15
      go_wp2_with fail
      refine (AR.out _ (Below.refl _ _)).mono ?_
      rintro e w2 ⟨rfl, b2⟩
      rw [HA.out]
      go_wp2
      go_ret
      exact ⟨congrArg (fun z => Ending.returned (.int .i64 z)) E.out.symm, b2⟩
    · have E : Hid (F = (numN l n : Nat)) := Lib.hid (by rw [hF, ha, decide_eq_true (show n ≤ 12 by omega)]; rfl)
      have HA := Lib.hid ha
      have NC := Lib.hid (fun W h => l6Number_any A n c l W h (by omega) (by unfold areB at ha; rw [L] at ha; exact ha))
      clear hF ha
      go_enter Try.func15, Try.ntmps15
      go_wp2_with fail
      refine (AR.out _ (Below.refl _ _)).mono ?_
      rintro e w2 ⟨rfl, b2⟩
      rw [HA.out]
      go_wp2_with fail
      refine (NC.out _ (Mem.rd_on h b2)).mono ?_
      rintro e w3 ⟨rfl, b3⟩
      go_wp2
      go_ret
      exact ⟨congrArg (fun z => Ending.returned (.int .i64 z)) E.out.symm, b2.trans (b3.mono b2.size)⟩

theorem pow_shl {m : Nat} (h : m ≤ 12) : IntKind.i64.wrap ((2 : Int) ^ m) = ((2 ^ m : Nat) : Int) ∧ 2 ^ m ≤ 4096 := by
  have h2 : 2 ^ m ≤ 2 ^ 12 := Nat.pow_le_pow_right (by omega) h
  have hp : (2 : Int) ^ m = ((2 ^ m : Nat) : Int) := by simp
  rw [hp]
  generalize 2 ^ m = X at h2 ⊢
  exact ⟨IntWalk.i64_in _ (by omega), h2⟩

end Go.Proofs.Ytopedgopbofhoaa
