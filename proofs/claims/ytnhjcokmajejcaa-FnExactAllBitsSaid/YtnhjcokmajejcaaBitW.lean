/- How many bits variables have; the word of a state: of the program. -/
import Derived.Test.YtnhjcokmajejcaaBit
import Derived.Test.YtnhjcokmajejcaaBitL
import Derived.Test.YtnhjcokmajejcaaShelf
import Derived.Deep.RegionHeld3
namespace Go.Proofs.Ytnhjcokmajejcaa
open Go.RowKit

theorem len_wdt {z : Nat} (h0 : 1 ≤ z) (h1 : z ≤ 20) : Lib.bitLen (z - 1) = wdt (z : Int) := by
  have : ∀ u : Fin 20, Lib.bitLen u.val = wdt ((u.val + 1 : Nat) : Int) := by decide +kernel
  have h := this ⟨z - 1, by omega⟩
  simp only [show z - 1 + 1 = z by omega] at h
  exact h

theorem width_any (v : Vr) (w : World) (hv : varB v = true) : Calls Try.prog 118 #[v.v] w (GivesInt w (wdv v)) := by
  have hq := varB_iff.1 hv
  have HS := Lib.hid (fun W => span_any v W (by omega) (by omega) (by omega) (by omega))
  obtain ⟨z, hz⟩ : ∃ z : Nat, v.high - v.low + 1 = (z : Int) := ⟨(v.high - v.low + 1).toNat, by omega⟩
  have HE : Hid (((Lib.bitLen (z - 1) : Nat) : Int) = ((wdv v : Nat) : Int)) := Lib.hid (by
    unfold wdv
    rw [hz, ← len_wdt (z := z) (by omega) (by omega)])
  rw [hz] at HS
  have h1 : 1 ≤ z ∧ z ≤ 20 := by omega
  have wa : IntKind.i64.wrap ((z : Int) - 1) = (z : Int) - 1 := IntWalk.i64_in _ (by omega)
  have wb : IntKind.u64.wrap ((z : Int) - 1) = (z : Int) - 1 := by rw [IntKind.wrap_u64]; omega
  unfold Vr.v at HS ⊢
  clear hq hz hv
  go_enter Try.func118, Try.ntmps118
  go_wp2_with fail
  refine (HS.out _).mono ?_
  rintro e w2 ⟨rfl, b2⟩
  go_wp2_with fail
  refine (Try.bits_Len _ _ (by omega) (by omega)).mono ?_
  rintro e w3 ⟨rfl, rfl⟩
  go_wp2
  go_ret
  exact ⟨congrArg (fun x => Ending.returned (.int .i64 x)) HE.out, below_call b2⟩

end Go.Proofs.Ytnhjcokmajejcaa
