/- Diagrams: where one goes from a place, in the model. -/
import Derived.Test.YtnpdeliaefjmlaaDgT
namespace Go.Proofs.Ytnpdeliaefjmlaa
open Go.RowKit
set_option maxRecDepth 100000

theorem l8At_any (d : Dg) (A : Option Addr) (n c : Nat) (x v y : Int) (w : World) (h : Mem.rd w w.heap.size [.slice A n c] d.forks) (hn : n ≤ 100000) (hx : x < 2 + n) (hv : v < d.vars) :
    Calls Try.prog 103 #[.agg #[.int .i64 d.vars, .slice A n c], .int .i64 x, .int .i64 v, .int .i64 y] w (GivesInt w (atP d x v y)) := by
  have VA := Lib.hid (fun W (B : Below w.heap.size w W) => l8Var_any d A n c x W (Mem.rd_on h B) hn hx)
  have BX := Lib.hid (ci_box (w := w) (v1 := .int .i64 d.vars) (v2 := .slice A n c) (t := 46))
  unfold atP
  by_cases hq : varP d x = v
  · have h2 : 2 ≤ x := by
      refine Int.not_lt.1 fun h2 => ?_
      unfold varP at hq
      rw [if_pos h2] at hq
      omega
    obtain ⟨k, rfl⟩ : ∃ k : Nat, x = 2 + k := ⟨(x - 2).toNat, by omega⟩
    have hk : k < n := by omega
    rw [if_neg (fun q => q hq)]
    have g : (varP d (2 + (k : Int)) != v) = false := by simp [hq]
    have ef : fkA d (2 + (k : Int)) = el d.forks k := by unfold fkA; rw [show (2 + (k : Int) - 2).toNat = k by omega]
    rw [ef]
    have w1 : IntKind.i64.wrap (2 + (k : Int) - 2) = (k : Int) := by rw [show 2 + (k : Int) - 2 = k by omega]; exact IntWalk.i64_in _ (by omega)
    have FA := Lib.hid (fun W (B : Below w.heap.size w W) => fk_at (Mem.rd_below h B) hk)
    generalize varP d (2 + (k : Int)) = V at *
    generalize el d.forks k = G at *
    obtain ⟨m, fs⟩ := d
    obtain ⟨ga, gb, gc⟩ := G
    dsimp only at *
    clear h hq ef
    by_cases hy : y = 1
    · rw [if_pos hy]
      subst hy
      go_enter Try.func103, Try.ntmps103
      go_wp2_with fail
      refine (VA.out _ (below_alloc _ _)).mono ?_
      rintro e w3 ⟨rfl, b3⟩
      obtain ⟨B3, x0, x1⟩ := BX.out _ b3
      obtain ⟨ad, hA, hbl, d0, d1, d2⟩ := FA.out _ B3
      subst hA
      go_wp2
      go_ret
      exact ⟨rfl, B3⟩
    · rw [if_neg hy]
      have g1 : (y == 1) = false := by simp [hy]
      go_enter Try.func103, Try.ntmps103
      go_wp2_with fail
      refine (VA.out _ (below_alloc _ _)).mono ?_
      rintro e w3 ⟨rfl, b3⟩
      obtain ⟨B3, x0, x1⟩ := BX.out _ b3
      obtain ⟨ad, hA, hbl, d0, d1, d2⟩ := FA.out _ B3
      subst hA
      go_wp2
      go_ret
      exact ⟨rfl, B3⟩
  · rw [if_pos hq]
    have g : (varP d x != v) = true := by simp [hq]
    generalize varP d x = V at *
    obtain ⟨m, fs⟩ := d
    dsimp only at *
    clear h hq
    go_enter Try.func103, Try.ntmps103
    go_wp2_with fail
    refine (VA.out _ (below_alloc _ _)).mono ?_
    rintro e w3 ⟨rfl, b3⟩
    go_wp2
    go_ret
    exact ⟨rfl, below_call b3⟩
end Go.Proofs.Ytnpdeliaefjmlaa
