/- Diagrams: to which places one comes, in the model; ForksOf. -/
import Derived.Test.YtnpdeliaefjmlaaRcI
import Derived.Test.YtnpdeliaefjmlaaDgT
import Derived.Test.YtnpdeliaefjmlaaDgK
namespace Go.Proofs.Ytnpdeliaefjmlaa
open Go.RowKit
set_option maxRecDepth 100000

set_option maxHeartbeats 8000000 in
theorem reach_spec (d : Dg) (ok : d.Ok) (A : Option Addr) (c : Nat) (nn : Int) (w : World) (h1 : Mem.rd w w.heap.size [.slice A d.forks.length c] d.forks) (p : isP d nn = true) :
    Calls Try.prog 81 #[.agg #[.int .i64 d.vars, .slice A d.forks.length c], .int .i64 nn] w (fun e w' => ∃ bb, e = .returned (.slice (some ⟨bb, 0, none⟩) (2 + d.forks.length) (2 + d.forks.length)) ∧ Blk w' bb 4 (rchC (2 + d.forks.length) (reachF d nn)) ∧ w.heap.size ≤ bb ∧ Below w.heap.size w w') := by
  have few := ok.few
  have pn := isP_iff.1 p
  obtain ⟨j, rfl⟩ : ∃ j : Nat, nn = (j : Int) := ⟨nn.toNat, by omega⟩
  obtain ⟨M, hM⟩ : ∃ M : Nat, M = 2 + d.forks.length := ⟨_, rfl⟩
  obtain ⟨N, hN⟩ : ∃ N : Nat, N = d.forks.length := ⟨_, rfl⟩
  have hj : j < M := by omega
  rw [← hM]
  have HS := fun W => run_make_bool M (by omega) W
  have wM : IntKind.i64.wrap ((N : Int) + 2) = (M : Int) := by rw [show (N : Int) + 2 = (M : Int) by omega]; exact IntWalk.i64_in _ (by omega)
  have BX := Lib.hid (ci_box (w := w) (v1 := .int .i64 d.vars) (v2 := .slice A d.forks.length c) (t := 46))
  have HM : Hid (M = 2 + N) := Lib.hid (by omega)
  have FA := Lib.hid (fun W (B : Below w.heap.size w W) k (hk : k < N) => fk_at (Mem.rd_below h1 B) (k := k) (by omega))
  have FK := Lib.hid (fun k (hk : k < N) => ok.fork k (by omega))
  have RF : Hid (reachF d (j : Int) = rch d j (downTo N N)) := Lib.hid (by unfold reachF; rw [hN])
  have nN : N ≤ 2000 := by omega
  have AP := Lib.hid (fun k (hk : k < N) => ok.apart k (by omega))
  rw [← hN] at BX ⊢
  clear hM hN h1 p pn few
  have kb0 := (ci_blk (w.alloc (.cells #[.int .i64 d.vars, .slice A N c] 46)) ((madeCells #[.bool false] M).setIfInBounds j (.bool true)) 4)
  rw [Array.toList_setIfInBounds, made_bool, rchC_set, World.size_alloc] at kb0
  have e0 : rchC M (fun y => false || decide (y = j)) = rchC M (rch d (j : Int) []) := rchC_ext M fun x _ => by
    rw [Bool.false_or]
    exact decide_eq_decide.2 ⟨fun h => by omega, fun h => by omega⟩
  rw [e0] at kb0
  have zc0 := (ci_blk (w.alloc (.cells #[.int .i64 d.vars, .slice A N c] 46)) (madeCells #[.bool false] M) 4).cell j
  have zf0 := (ci_blk (w.alloc (.cells #[.int .i64 d.vars, .slice A N c] 46)) (madeCells #[.bool false] M) 4).frozen j
  rw [made_bool, rchC_at M _ hj] at zc0
  simp only [World.size_alloc] at zc0 zf0
  have B0 := below_alloc (w.alloc (.cells #[.int .i64 d.vars, .slice A N c] 46)) (.cells ((madeCells #[.bool false] M).setIfInBounds j (.bool true)) 4)
  clear e0
  go_enter Try.func81, Try.ntmps81
  go_wp2
  go_loopg [6] N (fun m i wr => ∃ k : Nat, k + m = N ∧ i = .int .i64 ((N : Int) - 1 - k) ∧ Blk wr (w.heap.size + 1) 4 (rchC M (rch d (j : Int) (downTo N k))) ∧ Below (w.alloc (.cells #[.int .i64 d.vars, .slice A N c] 46)).heap.size (w.alloc (.cells #[.int .i64 d.vars, .slice A N c] 46)) wr)
  case atStart => exact ⟨0, by omega, by simp, kb0, B0⟩
  case round =>
    clear kb0 zc0 zf0 B0
    obtain ⟨k, hk, rfl, kb, hb⟩ := hrel
    obtain ⟨B, x0, x1⟩ := BX.out _ hb
    by_cases hlt : k < N
    · obtain ⟨i, hi⟩ : ∃ i : Nat, i = N - 1 - k := ⟨_, rfl⟩
      have hiN : i < N := by omega
      rw [show (N : Int) - 1 - k = (i : Int) by omega]
      obtain ⟨ad, rfl, hbl, d0, d1, d2⟩ := FA.out _ B i hiN
      have hbl' : (ad.add (i * 3)).block < wr.heap.size := by rw [add_block]; have := B.size; omega
      have F := FK.out i hiN
      have wi : IntKind.i64.wrap ((i : Int) + 2) = ((2 + i : Nat) : Int) := by rw [show (i : Int) + 2 = ((2 + i : Nat) : Int) by omega]; exact IntWalk.i64_in _ (by omega)
      have hiM : 2 + i < M := by have := HM.out; omega
      have z := kb.cell (2 + i)
      rw [rchC_at M _ hiM] at z
      have lb := kb.lt
      have EP : Hid (rch d (j : Int) (downTo N (k + 1)) = rstep d (rch d (j : Int) (downTo N k)) i) := Lib.hid (by rw [downTo_succ, hi]; exact rch_snoc d _ _ _)
      have SN := Lib.hid (fun (R : Nat → Bool) (h : R (2 + i) = false) => rstep_no (d := d) h)
      have l0 := F.l0
      have u1 := F.l1
      have h0 := F.h0
      have u2 := F.h1
      obtain ⟨lo, hlo⟩ : ∃ lo : Nat, (el d.forks i).lo = lo := ⟨(el d.forks i).lo.toNat, by omega⟩
      obtain ⟨hi2, hhi⟩ : ∃ hi2 : Nat, (el d.forks i).hi = hi2 := ⟨(el d.forks i).hi.toNat, by omega⟩
      have hloM : lo < M := by have := HM.out; omega
      have hhiM : hi2 < M := by have := HM.out; omega
      have ST := Lib.hid (fun (R : Nat → Bool) (h : R (2 + i) = true) => rchC_two (m := M) h hlo hhi)
      have hlh : lo ≠ hi2 := fun e => AP.out i hiN (by rw [hlo, hhi, e])
      rw [hlo] at d1
      rw [hhi] at d2
      have ek : (i : Int) - 1 = (N : Int) - 1 - ((k + 1 : Nat) : Int) := by omega
      have kN : Hid (N - 1 - (k + 1) + 1 + (k + 1) = N ∨ True) := Lib.hid (.inr trivial)
      have EK := Lib.hid ek
      have KBH := Lib.hid kb
      have hne : w.heap.size + 1 ≠ (ad.add (i * 3)).block := by rw [add_block]; omega
      clear ek F l0 u1 h0 u2 hlo hhi kb hi kN
      generalize rch d (j : Int) (downTo N k) = R at *
      cases hq : R (2 + i)
      · rw [hq] at z
        have E := Lib.hid (EP.out.trans (SN.out R hq))
        clear hq
        go_wp2
        go_roundg (N - (k + 1))
        case measure => omega
        case rel => exact ⟨k + 1, by omega, by rw [← EK.out], by rw [E.out]; exact KBH.out, hb⟩
      · rw [hq] at z
        have E1 := Lib.hid (ST.out R hq)
        have zlo := KBH.out.cell lo
        have flo := KBH.out.frozen lo
        rw [rchC_at M _ hloM] at zlo
        have kb1 := KBH.out.set lo (.bool true)
        have kb2 := Lib.hid (kb1.set hi2 (.bool true))
        have zhi := kb1.cell hi2
        rw [List.getElem?_set_ne hlh, rchC_at M _ hhiM] at zhi
        have fhi := kb1.frozen hi2
        clear hq kb1
        go_wp2
        go_roundg (N - (k + 1))
        case measure => omega
        case rel => exact ⟨k + 1, by omega, by rw [← EK.out], by rw [EP.out, ← E1.out]; exact kb2.out, (hb.setCell (p := ⟨w.heap.size + 1, lo, none⟩) (by simp) _).setCell (p := ⟨w.heap.size + 1, hi2, none⟩) (by simp) _⟩
    · obtain rfl : k = N := by omega
      rw [show (k : Int) - 1 - k = -1 by omega]
      have KBH := Lib.hid kb
      clear kb
      go_wp2
      go_ret
      exact ⟨w.heap.size + 1, rfl, by rw [RF.out]; exact KBH.out, Nat.le_succ _, B⟩
end Go.Proofs.Ytnpdeliaefjmlaa
