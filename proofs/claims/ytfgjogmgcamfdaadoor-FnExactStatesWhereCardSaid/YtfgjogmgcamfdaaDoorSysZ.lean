/- Systems: how many states, of the program and of the model. -/
import Derived.Test.YtfgjogmgcamfdaaDoorSysH
namespace Go.Proofs.YtfgjogmgcamfdaaDoor
open Go.RowKit

/-- How many states a system has; 0 if it is none. -/
def sizeOf (s : Sy) : Int := if sysB s then sizeB s else 0

set_option maxRecDepth 100000 in
set_option maxHeartbeats 2000000 in
theorem sizeOf_spec (s : Sy) (A1 : Option Addr) (n1 c1 : Nat) (A2 : Option Addr) (n2 c2 : Nat) (w : World) (h1 : Mem.rd w w.heap.size [.slice A1 n1 c1] s.vars) (h2 : Mem.rd w w.heap.size [.slice A2 n2 c2] s.rules) :
    Calls Tryd.prog 28 #[.agg #[.slice A1 n1 c1, .slice A2 n2 c2]] w (GivesInt w (sizeOf s)) := by
  have L1 := Lib.hid (rd_len h1)
  have BX := Lib.hid (sy_box (w := w) (v1 := .slice A1 n1 c1) (v2 := .slice A2 n2 c2))
  have SV := Lib.hid (fun o => sysValid_spec s A1 n1 c1 A2 n2 c2 (w.alloc o) (Mem.rd_on_alloc h1 o) (Mem.rd_on_alloc h2 o))
  unfold sizeOf
  cases hz : sysB s
  · have HZ := Lib.hid hz; clear hz
    go_enter Tryd.func28, Tryd.ntmps28
    go_wp2_with fail
    refine (SV.out _).mono ?_
    rintro e w2 ⟨rfl, b2⟩
    rw [HZ.out]
    go_wp2
    go_ret
    exact ⟨rfl, below_call b2⟩
  · have ok := sys_ok hz
    have HZ := Lib.hid hz; clear hz
    rw [L1.out] at ok
    obtain ⟨⟨_, g2, _⟩, hv, _⟩ := ok
    have HV := Lib.hid hv; clear hv
    have E : Hid (sizeB s = prodTo s.vars n1) := Lib.hid (by unfold sizeB; rw [L1.out])
    go_enter Tryd.func28, Tryd.ntmps28
    go_wp2_with fail
    refine (SV.out _).mono ?_
    rintro e w2 ⟨rfl, b2⟩
    rw [HZ.out]
    obtain ⟨B2, z0, z1⟩ := BX.out _ b2
    go_wp2
    go_loopg [3, 4] n1 (fun m x i wr => ∃ k : Nat, k + m = n1 ∧ i = .int .i64 k ∧ x = .int .i64 (prodTo s.vars k) ∧ Below (w.alloc (.cells #[.slice A1 n1 c1, .slice A2 n2 c2] 34)).heap.size (w.alloc (.cells #[.slice A1 n1 c1, .slice A2 n2 c2] 34)) wr)
    case atStart => exact ⟨0, by omega, rfl, rfl, b2⟩
    case round =>
      clear z0 z1 B2
      obtain ⟨k, hk, rfl, rfl, hb⟩ := hrel
      obtain ⟨B, x0, x1⟩ := BX.out _ hb
      by_cases hlt : k < n1
      · obtain ⟨ad, rfl, hbl, d0, d1, d2⟩ := vr_at (Mem.rd_below h1 B) hlt
        have hvk := varB_iff.1 (allTo_true.1 HV.out k hlt)
        have hp := prod_bd5 (l := s.vars) (k := k) (allTo_true.2 fun i hi => allTo_true.1 HV.out i (by omega)) (by omega)
        have HP : Hid (prodTo s.vars (k + 1) = prodTo s.vars k * ((el s.vars k).high - (el s.vars k).low + 1)) := Lib.hid rfl
        generalize el s.vars k = v at *
        obtain ⟨a, b, c⟩ := v
        dsimp only at HP hvk d0 d1 d2
        generalize prodTo s.vars k = p at *
        have hb1 : p * (b - a + 1) ≤ 3200000 * 20 := Int.mul_le_mul (by omega) (by omega) (by omega) (by omega)
        have hb0 : 0 ≤ p * (b - a + 1) := Int.mul_nonneg (by omega) (by omega)
        have wv1 : IntKind.i64.wrap (b - a) = b - a := IntWalk.i64_in _ (by omega)
        have wv2 : IntKind.i64.wrap (b - a + 1) = b - a + 1 := IntWalk.i64_in _ (by omega)
        have wv3 : IntKind.i64.wrap (p * (b - a + 1)) = p * (b - a + 1) := IntWalk.i64_in _ (by omega)
        go_wp2
        go_quiet (fail)
        go_wp2
        go_roundg (n1 - (k + 1))
        case measure => omega
        case rel => exact ⟨k + 1, by omega, by go_num, by rw [HP.out], hb.trans ⟨rfl, rfl, rfl, Nat.le_refl _, fun _ _ => rfl⟩⟩
      · obtain rfl : k = n1 := by omega
        go_wp2
        go_ret
        exact ⟨(congrArg (fun z => Ending.returned (.int .i64 z)) E.out).symm, B⟩


end Go.Proofs.YtfgjogmgcamfdaaDoor
