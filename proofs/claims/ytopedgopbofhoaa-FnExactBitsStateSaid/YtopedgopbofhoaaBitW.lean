/- How many bits variables have; the word of a state: of the program. -/
import Derived.Test.YtopedgopbofhoaaBit
import Derived.Test.YtopedgopbofhoaaBitL
import Derived.Test.YtopedgopbofhoaaShelf
import Derived.Deep.RegionHeld3
namespace Go.Proofs.Ytopedgopbofhoaa
open Go.RowKit

theorem len_wdt {z : Nat} (h0 : 1 ≤ z) (h1 : z ≤ 20) : Lib.bitLen (z - 1) = wdt (z : Int) := by
  have : ∀ u : Fin 20, Lib.bitLen u.val = wdt ((u.val + 1 : Nat) : Int) := by decide +kernel
  have h := this ⟨z - 1, by omega⟩
  simp only [show z - 1 + 1 = z by omega] at h
  exact h

theorem width_any (v : Vr) (w : World) (hv : varB v = true) : Calls Try.prog 49 #[v.v] w (GivesInt w (wdv v)) := by
  have hq := varB_iff.1 hv
  have HS := Lib.hid (fun W => span_any v W (by omega) (by omega) (by omega) (by omega))
  obtain ⟨z, hz⟩ : ∃ z : Nat, v.high - v.low + 1 = (z : Int) := ⟨(v.high - v.low + 1).toNat, by omega⟩
  have HE : Hid (((Lib.bitLen (z - 1) : Nat) : Int) = ((wdv v : Nat) : Int)) := Lib.hid (by
    unfold wdv
    rw [hz, ← len_wdt (z := z) (by omega) (by omega)])
  rw [hz] at HS
  have h1 : 1 ≤ z ∧ z ≤ 20 := by omega
  have wa : IntKind.i64.wrap ((z : Int) - 1) = (z : Int) - 1 := IntWalk.i64_in _ (by omega)
  have wb : IntKind.u64.wrap ((z : Int) - 1) = (z : Int) - 1 := by rw [IntKind.wrap_u64]; omega
  unfold Vr.v at HS ⊢
  clear hq hz hv
  go_enter Try.func49, Try.ntmps49
  go_wp2_with fail
  refine (HS.out _).mono ?_
  rintro e w2 ⟨rfl, b2⟩
  go_wp2_with fail
  refine (Try.bits_Len _ _ (by omega) (by omega)).mono ?_
  rintro e w3 ⟨rfl, rfl⟩
  go_wp2
  go_ret
  exact ⟨congrArg (fun x => Ending.returned (.int .i64 x)) HE.out, below_call b2⟩

set_option maxRecDepth 100000 in
set_option maxHeartbeats 2000000 in
theorem widthS_any (s : Sy) (A1 : Option Addr) (n1 c1 : Nat) (A2 : Option Addr) (n2 c2 : Nat) (w : World) (h1 : Mem.rd w w.heap.size [.slice A1 n1 c1] s.vars) (ok : SysOk s) :
    Calls Try.prog 29 #[.agg #[.slice A1 n1 c1, .slice A2 n2 c2]] w (GivesInt w (widTo s.vars s.vars.length)) := by
  have L := rd_len h1
  have h5 : n1 ≤ 5 := by have := ok.hi; omega
  have WL := Lib.hid (fun k (hk : k ≤ n1) => wid_le ok (k := k) (by omega))
  have HV := Lib.hid (fun k (hk : k < n1) => ok.vars k (by omega))
  have E : Hid (widTo s.vars s.vars.length = widTo s.vars n1) := Lib.hid (by rw [L])
  clear L ok
  go_enter Try.func29, Try.ntmps29
  go_wp2
  go_loopg [3, 9] n1 (fun m x i wr => ∃ k : Nat, k + m = n1 ∧ i = .int .i64 k ∧ x = .int .i64 (widTo s.vars k) ∧ Below w.heap.size w wr)
  case atStart => exact ⟨0, by omega, rfl, rfl, below_alloc _ _⟩
  case round =>
    obtain ⟨k, hk, rfl, rfl, hb⟩ := hrel
    by_cases hlt : k < n1
    · obtain ⟨ad, rfl, _, c0, c1', c2'⟩ := vr_at (Mem.rd_below h1 hb) hlt
      have HP : Hid (((widTo s.vars k : Nat) : Int) + (wdv (el s.vars k) : Nat) = ((widTo s.vars (k + 1) : Nat) : Int)) := Lib.hid (by show _ = ((widTo s.vars k + wdv (el s.vars k) : Nat) : Int); omega)
      have HS := Lib.hid (fun W => width_any (el s.vars k) W (HV.out k hlt))
      have b1 := WL.out (k + 1) (by omega)
      have wv : IntKind.i64.wrap ((widTo s.vars k : Nat) + (wdv (el s.vars k) : Nat) : Int) = ((widTo s.vars (k + 1) : Nat) : Int) := by rw [HP.out]; exact IntWalk.i64_in _ (by omega)
      generalize el s.vars k = v at *
      obtain ⟨a, b, c⟩ := v
      unfold Vr.v at HS
      dsimp only at HS HP c0 c1' c2'
      generalize wdv ⟨a, b, c⟩ = x at *
      clear b1
      obtain ⟨y, hy⟩ : ∃ y, y = widTo s.vars (k + 1) := ⟨_, rfl⟩
      have HY := Lib.hid hy
      rw [← hy] at wv
      clear hy HP
      generalize widTo s.vars k = p at wv ⊢
      go_wp2_with (first | (go_at_call 49; refine (HS.out _).mono ?_; rintro e w2 ⟨rfl, b2⟩))
      go_roundg (n1 - (k + 1))
      case measure => omega
      case rel => exact ⟨k + 1, by omega, by go_num, by rw [HY.out], hb.trans (Below.mono (below_call b2) hb.size)⟩
    · obtain rfl : k = n1 := by omega
      go_wp2
      go_ret
      exact ⟨by rw [E.out]; rfl, hb⟩
end Go.Proofs.Ytopedgopbofhoaa
