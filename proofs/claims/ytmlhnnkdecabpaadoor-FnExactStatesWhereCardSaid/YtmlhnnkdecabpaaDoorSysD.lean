/- Systems: sizes, and the program's SystemValid and SizeOf. -/
import Derived.Test.YtmlhnnkdecabpaaDoorSysB
namespace Go.Proofs.YtmlhnnkdecabpaaDoor
open Go.RowKit

/-- The product of the spans of the first k variables. -/
def prodTo (l : List Vr) : Nat → Int
  | 0 => 1
  | k + 1 => prodTo l k * ((el l k).high - (el l k).low + 1)
theorem prod_bd {l : List Vr} : ∀ {k : Nat}, allTo (fun i => varB (el l i)) k = true → 1 ≤ prodTo l k ∧ prodTo l k ≤ 20 ^ k
  | 0, _ => by simp [prodTo]
  | k + 1, h => by
    simp only [allTo, Bool.and_eq_true] at h
    obtain ⟨i1, i2⟩ := prod_bd (k := k) h.1
    have hv := varB_iff.1 h.2
    generalize hs : (el l k).high - (el l k).low + 1 = s at *
    have s1 : 1 ≤ s := by omega
    have s2 : s ≤ 20 := by omega
    have e : prodTo l (k + 1) = prodTo l k * s := by rw [← hs]; rfl
    rw [e, Int.pow_succ]
    constructor
    · calc (1 : Int) = 1 * 1 := rfl
        _ ≤ prodTo l k * s := Int.mul_le_mul i1 s1 (by omega) (by omega)
    · exact Int.mul_le_mul i2 s2 (by omega) (Int.le_trans (by omega) i2)
theorem prod_bd5 {l : List Vr} {k : Nat} (h : allTo (fun i => varB (el l i)) k = true) (hk : k ≤ 5) : 1 ≤ prodTo l k ∧ prodTo l k ≤ 3200000 := by
  have := prod_bd h
  have e : (20 : Int) ^ k ≤ 20 ^ 5 := by
    have : k = 0 ∨ k = 1 ∨ k = 2 ∨ k = 3 ∨ k = 4 ∨ k = 5 := by omega
    rcases this with rfl | rfl | rfl | rfl | rfl | rfl <;> decide
  have e5 : (20 : Int) ^ 5 = 3200000 := by decide
  omega

/-- How many states there are. -/
def sizeB (s : Sy) : Int := prodTo s.vars s.vars.length
/-- Whether a system is one. -/
def sysB (s : Sy) : Bool := decide (1 ≤ s.vars.length) && (decide (s.vars.length ≤ 5) && (decide (s.rules.length ≤ 8) && (allTo (fun i => varB (el s.vars i)) s.vars.length && (allTo (fun i => ruleB (el s.rules i) s.vars.length) s.rules.length && decide (sizeB s ≤ 400)))))

set_option maxHeartbeats 2000000 in
theorem size_any (s : Sy) (A1 : Option Addr) (n1 c1 : Nat) (A2 : Option Addr) (n2 c2 : Nat) (w : World) (h1 : Mem.rd w w.heap.size [.slice A1 n1 c1] s.vars) (hn : n1 ≤ 5) (hv : allTo (fun i => varB (el s.vars i)) n1 = true) :
    Calls Tryd.prog 62 #[.agg #[.slice A1 n1 c1, .slice A2 n2 c2]] w (GivesInt w (sizeB s)) := by
  have e : sizeB s = prodTo s.vars n1 := by unfold sizeB; rw [rd_len h1]
  have E := Lib.hid e; clear e
  have HV := Lib.hid hv; clear hv
  go_enter Tryd.func62, Tryd.ntmps62
  go_wp2
  go_loopg [3, 9] n1 (fun m x i wr => ∃ k : Nat, k + m = n1 ∧ i = .int .i64 k ∧ x = .int .i64 (prodTo s.vars k) ∧ Below w.heap.size w wr)
  case atStart => exact ⟨0, by omega, rfl, rfl, below_alloc _ _⟩
  case round =>
    obtain ⟨k, hk, rfl, rfl, hb⟩ := hrel
    by_cases hlt : k < n1
    · obtain ⟨ad, rfl, _, c0, c1', c2'⟩ := vr_at (Mem.rd_below h1 hb) hlt
      have hvk := varB_iff.1 (allTo_true.1 HV.out k hlt)
      have hp := prod_bd5 (l := s.vars) (k := k) (allTo_true.2 fun i hi => allTo_true.1 HV.out i (by omega)) (by omega)
      have HP : Hid (prodTo s.vars (k + 1) = prodTo s.vars k * ((el s.vars k).high - (el s.vars k).low + 1)) := Lib.hid rfl
      have HS := Lib.hid (fun W => span_any (el s.vars k) W (by omega) (by omega) (by omega) (by omega))
      generalize el s.vars k = v at *
      obtain ⟨a, b, c⟩ := v
      unfold Vr.v at HS
      dsimp only at HS HP hvk c0 c1' c2'
      generalize prodTo s.vars k = p at *
      have hb1 : p * (b - a + 1) ≤ 3200000 * 20 := Int.mul_le_mul (by omega) (by omega) (by omega) (by omega)
      have hb0 : 0 ≤ p * (b - a + 1) := Int.mul_nonneg (by omega) (by omega)
      go_wp2_with (first | (go_at_call 93; refine (HS.out _).mono ?_; rintro e w2 ⟨rfl, b2⟩))
      go_roundg (n1 - (k + 1))
      case measure => omega
      case rel => exact ⟨k + 1, by omega, by go_num, by rw [HP.out], hb.trans (Below.mono (below_call b2) hb.size)⟩
    · obtain rfl : k = n1 := by omega
      go_wp2
      go_ret
      exact ⟨by rw [E.out]; rfl, hb⟩
end Go.Proofs.YtmlhnnkdecabpaaDoor
