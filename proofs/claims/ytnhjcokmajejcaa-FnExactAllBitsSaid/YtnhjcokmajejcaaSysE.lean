/- Systems: the program's SystemValid, SizeOf, FirstState, InRange. -/
import Derived.Test.YtnhjcokmajejcaaSysB
import Derived.Test.YtnhjcokmajejcaaKinds
namespace Go.Proofs.Ytnhjcokmajejcaa
open Go.RowKit

/-- The product of the spans of the first k variables. -/
def prodTo (l : List Vr) : Nat → Int
  | 0 => 1
  | k + 1 => prodTo l k * ((el l k).high - (el l k).low + 1)
theorem prod_bd {l : List Vr} : ∀ {k : Nat}, allTo (fun i => varB (el l i)) k = true → 1 ≤ prodTo l k ∧ prodTo l k ≤ 20 ^ k
  | 0, _ => by simp [prodTo]
  | k + 1, h => by
    simp only [allTo, Bool.and_eq_true] at h
    obtain ⟨i1, i2⟩ := prod_bd (k := k) h.1
    have hv := varB_iff.1 h.2
    generalize hs : (el l k).high - (el l k).low + 1 = s at *
    have s1 : 1 ≤ s := by omega
    have s2 : s ≤ 20 := by omega
    have e : prodTo l (k + 1) = prodTo l k * s := by rw [← hs]; rfl
    rw [e, Int.pow_succ]
    constructor
    · calc (1 : Int) = 1 * 1 := rfl
        _ ≤ prodTo l k * s := Int.mul_le_mul i1 s1 (by omega) (by omega)
    · exact Int.mul_le_mul i2 s2 (by omega) (Int.le_trans (by omega) i2)
theorem prod_bd5 {l : List Vr} {k : Nat} (h : allTo (fun i => varB (el l i)) k = true) (hk : k ≤ 5) : 1 ≤ prodTo l k ∧ prodTo l k ≤ 3200000 := by
  have := prod_bd h
  have e : (20 : Int) ^ k ≤ 20 ^ 5 := by
    have : k = 0 ∨ k = 1 ∨ k = 2 ∨ k = 3 ∨ k = 4 ∨ k = 5 := by omega
    rcases this with rfl | rfl | rfl | rfl | rfl | rfl <;> decide
  have e5 : (20 : Int) ^ 5 = 3200000 := by decide
  omega

/-- How many states there are. -/
def sizeB (s : Sy) : Int := prodTo s.vars s.vars.length
/-- Whether a system is one. -/
def sysB (s : Sy) : Bool := decide (1 ≤ s.vars.length) && (decide (s.vars.length ≤ 5) && (decide (s.rules.length ≤ 8) && (allTo (fun i => varB (el s.vars i)) s.vars.length && (allTo (fun i => ruleB (el s.rules i) s.vars.length) s.rules.length && decide (sizeB s ≤ 400)))))

set_option maxHeartbeats 2000000 in
theorem size_any (s : Sy) (A1 : Option Addr) (n1 c1 : Nat) (A2 : Option Addr) (n2 c2 : Nat) (w : World) (h1 : Mem.rd w w.heap.size [.slice A1 n1 c1] s.vars) (hn : n1 ≤ 5) (hv : allTo (fun i => varB (el s.vars i)) n1 = true) :
    Calls Try.prog 86 #[.agg #[.slice A1 n1 c1, .slice A2 n2 c2]] w (GivesInt w (sizeB s)) := by
  have e : sizeB s = prodTo s.vars n1 := by unfold sizeB; rw [rd_len h1]
  have E := Lib.hid e; clear e
  have HV := Lib.hid hv; clear hv
  go_enter Try.func86, Try.ntmps86
  go_wp2
  go_loopg [3, 9] n1 (fun m x i wr => ∃ k : Nat, k + m = n1 ∧ i = .int .i64 k ∧ x = .int .i64 (prodTo s.vars k) ∧ Below w.heap.size w wr)
  case atStart => exact ⟨0, by omega, rfl, rfl, below_alloc _ _⟩
  case round =>
    obtain ⟨k, hk, rfl, rfl, hb⟩ := hrel
    by_cases hlt : k < n1
    · obtain ⟨ad, rfl, _, c0, c1', c2'⟩ := vr_at (Mem.rd_below h1 hb) hlt
      have hvk := varB_iff.1 (allTo_true.1 HV.out k hlt)
      have hp := prod_bd5 (l := s.vars) (k := k) (allTo_true.2 fun i hi => allTo_true.1 HV.out i (by omega)) (by omega)
      have HP : Hid (prodTo s.vars (k + 1) = prodTo s.vars k * ((el s.vars k).high - (el s.vars k).low + 1)) := Lib.hid rfl
      have HS := Lib.hid (fun W => span_any (el s.vars k) W (by omega) (by omega) (by omega) (by omega))
      generalize el s.vars k = v at *
      obtain ⟨a, b, c⟩ := v
      unfold Vr.v at HS
      dsimp only at HS HP hvk c0 c1' c2'
      generalize prodTo s.vars k = p at *
      have hb1 : p * (b - a + 1) ≤ 3200000 * 20 := Int.mul_le_mul (by omega) (by omega) (by omega) (by omega)
      have hb0 : 0 ≤ p * (b - a + 1) := Int.mul_nonneg (by omega) (by omega)
      go_wp2_with (first | (go_at_call 116; refine (HS.out _).mono ?_; rintro e w2 ⟨rfl, b2⟩))
      go_roundg (n1 - (k + 1))
      case measure => omega
      case rel => exact ⟨k + 1, by omega, by go_num, by rw [HP.out], hb.trans (Below.mono (below_call b2) hb.size)⟩
    · obtain rfl : k = n1 := by omega
      go_wp2
      go_ret
      exact ⟨by rw [E.out]; rfl, hb⟩
end Go.Proofs.Ytnhjcokmajejcaa
namespace Go.Proofs.Ytnhjcokmajejcaa
open Go.RowKit

theorem sys_short {s : Sy} (h : ¬ (1 ≤ s.vars.length ∧ s.vars.length ≤ 5 ∧ s.rules.length ≤ 8)) : sysB s = false := by
  cases e : sysB s with
  | false => rfl
  | true => simp only [sysB, Bool.and_eq_true, decide_eq_true_eq] at e; exact absurd ⟨e.1, e.2.1, e.2.2.1⟩ h
theorem sys_var {s : Sy} {k : Nat} (hk : k < s.vars.length) (h : varB (el s.vars k) = false) : sysB s = false := by
  unfold sysB; rw [allTo_false (f := fun i => varB (el s.vars i)) hk h]; simp
theorem sys_rule {s : Sy} {k : Nat} (hk : k < s.rules.length) (h : ruleB (el s.rules k) s.vars.length = false) : sysB s = false := by
  unfold sysB; rw [allTo_false (f := fun i => ruleB (el s.rules i) s.vars.length) hk h]; simp
theorem sys_end {s : Sy} (h : 1 ≤ s.vars.length ∧ s.vars.length ≤ 5 ∧ s.rules.length ≤ 8) (hv : allTo (fun i => varB (el s.vars i)) s.vars.length = true) (hr : allTo (fun i => ruleB (el s.rules i) s.vars.length) s.rules.length = true) :
    sysB s = decide (sizeB s ≤ 400) := by
  unfold sysB; rw [hv, hr]; simp [h.1, h.2.1, h.2.2]
theorem sys_ok {s : Sy} (h : sysB s = true) : (1 ≤ s.vars.length ∧ s.vars.length ≤ 5 ∧ s.rules.length ≤ 8) ∧ allTo (fun i => varB (el s.vars i)) s.vars.length = true ∧ allTo (fun i => ruleB (el s.rules i) s.vars.length) s.rules.length = true ∧ sizeB s ≤ 400 := by
  simp only [sysB, Bool.and_eq_true, decide_eq_true_eq] at h
  exact ⟨⟨h.1, h.2.1, h.2.2.1⟩, h.2.2.2.1, h.2.2.2.2.1, h.2.2.2.2.2⟩

/-- A system that came in lies in its box. -/
theorem sy_box {w : World} {v1 v2 : Value} : ∀ W, Below (w.alloc (.cells #[v1, v2] 33)).heap.size (w.alloc (.cells #[v1, v2] 33)) W →
    Below w.heap.size w W ∧ W.cell? ⟨w.heap.size, 0, none⟩ = some v1 ∧ W.cell? ⟨w.heap.size, 1, none⟩ = some v2 :=
  fun W hW => ⟨below_call hW, ((Blk.new w _ _).below hW (by simp)).cell 0, ((Blk.new w _ _).below hW (by simp)).cell 1⟩

set_option maxRecDepth 100000 in
set_option maxHeartbeats 4000000 in
theorem sysValid_impl (s : Sy) (A1 : Option Addr) (n1 c1 : Nat) (A2 : Option Addr) (n2 c2 : Nat) (w : World) (h1 : Mem.rd w w.heap.size [.slice A1 n1 c1] s.vars) (h2 : Mem.rd w w.heap.size [.slice A2 n2 c2] s.rules) :
    Calls Try.prog 84 #[.agg #[.slice A1 n1 c1, .slice A2 n2 c2]] w (GivesBool w (sysB s)) := by
  have m1 := rd_max h1
  have m2 := rd_max h2
  unfold maxLen at m1 m2
  have L1 := rd_len h1
  have L2 := rd_len h2
  by_cases g : 1 ≤ n1 ∧ n1 ≤ 5 ∧ n2 ≤ 8
  · obtain ⟨g1, g2, g3⟩ := g
    have hc1 : Hid (∀ k, k < n1 → varB (el s.vars k) = false → sysB s = false) := Lib.hid fun k hk h => sys_var (by rw [L1]; exact hk) h
    have hc2 : Hid (∀ k, k < n2 → ruleB (el s.rules k) n1 = false → sysB s = false) := Lib.hid fun k hk h => sys_rule (by rw [L2]; exact hk) (by rw [L1]; exact h)
    have hc3 : Hid (allTo (fun i => varB (el s.vars i)) n1 = true → allTo (fun i => ruleB (el s.rules i) n1) n2 = true → sysB s = decide (sizeB s ≤ 400)) :=
      Lib.hid fun a b => sys_end (by rw [L1, L2]; exact ⟨g1, g2, g3⟩) (by rw [L1]; exact a) (by rw [L1, L2]; exact b)
    clear L1 L2
    have BX := Lib.hid (sy_box (w := w) (v1 := .slice A1 n1 c1) (v2 := .slice A2 n2 c2))
    go_enter Try.func84, Try.ntmps84
    go_wp2
    go_loopg [26] n1 (fun m i wr => ∃ k : Nat, k + m = n1 ∧ i = .int .i64 k ∧ Hid (allTo (fun i => varB (el s.vars i)) k = true) ∧ Below (w.alloc (.cells #[.slice A1 n1 c1, .slice A2 n2 c2] 33)).heap.size (w.alloc (.cells #[.slice A1 n1 c1, .slice A2 n2 c2] 33)) wr)
    case atStart => exact ⟨0, by omega, rfl, Lib.hid rfl, Below.refl _ _⟩
    case round =>
      obtain ⟨k, hk, rfl, ha, hb⟩ := hrel
      obtain ⟨B, x0, x1⟩ := BX.out _ hb
      by_cases hlt : k < n1
      · obtain ⟨ad, rfl, _, c0, c1', c2'⟩ := vr_at (Mem.rd_below h1 B) hlt
        have HO := Lib.hid (fun W => isOne_any (el s.vars k) W)
        cases hz : varB (el s.vars k)
        · have HF := Lib.hid (hc1.out k hlt hz)
          have HZ := Lib.hid hz; clear hz
          unfold Vr.v at HO
          go_wp2_with (first | (go_at_call 114; refine (HO.out _).mono ?_; rintro e w2 ⟨rfl, b2⟩; rw [HZ.out]))
          go_ret
          exact ⟨(congrArg (fun b => Ending.returned (.bool b)) HF.out).symm, B.trans (Below.mono (below_call b2) B.size)⟩
        · have hf : Hid (allTo (fun i => varB (el s.vars i)) (k + 1) = true) := Lib.hid (by show (allTo _ k && varB (el s.vars k)) = true; rw [ha.out, hz]; rfl)
          have HZ := Lib.hid hz; clear hz
          unfold Vr.v at HO
          go_wp2_with (first | (go_at_call 114; refine (HO.out _).mono ?_; rintro e w2 ⟨rfl, b2⟩; rw [HZ.out]))
          go_roundg (n1 - (k + 1))
          case measure => omega
          case rel => exact ⟨k + 1, by omega, by go_num, hf, hb.trans (Below.mono (below_call b2) hb.size)⟩
      · obtain rfl : k = n1 := by omega
        clear hlt hk
        obtain ⟨wo, rfl⟩ : ∃ wo : World, wo = wr := ⟨_, rfl⟩
        go_wp2
        go_loopg [37] n2 (fun m i wr => ∃ j : Nat, j + m = n2 ∧ i = .int .i64 j ∧ Hid (allTo (fun i => ruleB (el s.rules i) k) j = true) ∧ Below (w.alloc (.cells #[.slice A1 k c1, .slice A2 n2 c2] 33)).heap.size (w.alloc (.cells #[.slice A1 k c1, .slice A2 n2 c2] 33)) wr)
        case atStart => exact ⟨0, by omega, rfl, Lib.hid rfl, hb⟩
        case round =>
          clear x0 x1
          obtain ⟨j, hj, rfl, ha2, hb2⟩ := hrel
          obtain ⟨B2, y0, y1⟩ := BX.out _ hb2
          have hsz : w.heap.size < wr.heap.size := by have := hb2.size; simp at this; omega
          by_cases hlt : j < n2
          · obtain ⟨ad, A4, n4, c4, A5, n5, c5, A6, n6, c6, rfl, _, d0, d1, d2, r1, r2, r3⟩ := rl_at (Mem.rd_below h2 B2) hlt
            have OV := Lib.hid (fun o => isOver_any (el s.rules j) A4 n4 c4 A5 n5 c5 A6 n6 c6 k (wr.alloc o) (Mem.rd_on_alloc (Mem.rd_more r1 B2.size) o) (Mem.rd_on_alloc (Mem.rd_more r2 B2.size) o) (Mem.rd_on_alloc (Mem.rd_more r3 B2.size) o) (by omega) (by omega))
            cases hz : ruleB (el s.rules j) k
            · have HF := Lib.hid (hc2.out j hlt hz)
              have HZ := Lib.hid hz; clear hz
              go_wp2_with (first | (go_at_call 115; refine (OV.out _).mono ?_; rintro e w2 ⟨rfl, b2⟩; rw [HZ.out]))
              go_ret
              exact ⟨(congrArg (fun b => Ending.returned (.bool b)) HF.out).symm, B2.trans (Below.mono (below_call b2) B2.size)⟩
            · have hf : Hid (allTo (fun i => ruleB (el s.rules i) k) (j + 1) = true) := Lib.hid (by show (allTo _ j && ruleB (el s.rules j) k) = true; rw [ha2.out, hz]; rfl)
              have HZ := Lib.hid hz; clear hz
              go_wp2_with (first | (go_at_call 115; refine (OV.out _).mono ?_; rintro e w2 ⟨rfl, b2⟩; rw [HZ.out]))
              go_roundg (n2 - (j + 1))
              case measure => omega
              case rel => exact ⟨j + 1, by omega, by go_num, hf, hb2.trans (Below.mono (below_call b2) hb2.size)⟩
          · obtain rfl : j = n2 := by omega
            have HE := Lib.hid (hc3.out ha.out ha2.out)
            have SZ := Lib.hid (size_any s A1 k c1 A2 j c2 wr (Mem.rd_on h1 B2) g2 ha.out)
            go_wp2_with (first | (go_at_call 86; refine SZ.out.mono ?_; rintro e w2 ⟨rfl, b2⟩))
            go_ret
            exact ⟨(congrArg (fun b => Ending.returned (.bool b)) HE.out).symm, B2.trans (b2.mono B2.size)⟩
  · have HF := Lib.hid (sys_short (s := s) (by rw [L1, L2]; exact g))
    clear L1 L2
    by_cases q1 : n1 < 1
    · go_enter Try.func84, Try.ntmps84
      go_wp2
      go_ret
      exact ⟨(congrArg (fun b => Ending.returned (.bool b)) HF.out).symm, below_alloc _ _⟩
    by_cases q2 : 5 < n1
    · go_enter Try.func84, Try.ntmps84
      go_wp2
      go_ret
      exact ⟨(congrArg (fun b => Ending.returned (.bool b)) HF.out).symm, below_alloc _ _⟩
    have q3 : 8 < n2 := by omega
    go_enter Try.func84, Try.ntmps84
    go_wp2
    go_ret
    exact ⟨(congrArg (fun b => Ending.returned (.bool b)) HF.out).symm, below_alloc _ _⟩
end Go.Proofs.Ytnhjcokmajejcaa
