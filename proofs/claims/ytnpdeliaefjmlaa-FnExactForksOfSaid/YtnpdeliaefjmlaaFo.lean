/- Diagrams: ForksOf, in the model and in the program. -/
import Derived.Test.YtnpdeliaefjmlaaRcS
import Derived.Test.YtnpdeliaefjmlaaDgV
namespace Go.Proofs.Ytnpdeliaefjmlaa
open Go.RowKit
set_option maxRecDepth 100000

/-- How many of the first m forks one comes to. -/
def cntR (R : Nat → Bool) : Nat → Nat
  | 0 => 0
  | m + 1 => cntR R m + if R (2 + m) = true then 1 else 0
theorem cntR_le (R : Nat → Bool) : ∀ m, cntR R m ≤ m
  | 0 => Nat.le_refl _
  | m + 1 => by
    have := cntR_le R m
    unfold cntR
    split <;> omega
noncomputable def forksB (d : Dg) (nn : Int) : Int := if (dgB d && isP d nn) = true then (cntR (reachF d nn) d.forks.length : Int) else -1

set_option maxHeartbeats 4000000 in
theorem size_spec9 (d : Dg) (ok : d.Ok) (A : Option Addr) (c : Nat) (nn : Int) (w : World) (h1 : Mem.rd w w.heap.size [.slice A d.forks.length c] d.forks) (p : isP d nn = true) :
    Calls Try.prog 87 #[.agg #[.int .i64 d.vars, .slice A d.forks.length c], .int .i64 nn] w (GivesInt w (cntR (reachF d nn) d.forks.length)) := by
  have few := ok.few
  have RS := Lib.hid (fun W (B : Below w.heap.size w W) => reach_spec d ok A c nn W (Mem.rd_on h1 B) p)
  have CL := Lib.hid (cntR_le (reachF d nn))
  have CS : Hid (∀ m, cntR (reachF d nn) (m + 1) = cntR (reachF d nn) m + if reachF d nn (2 + m) = true then 1 else 0) := Lib.hid (fun m => rfl)
  have RA := Lib.hid (fun (m x : Nat) (h : x < m) => rchC_at m (reachF d nn) h)
  generalize reachF d nn = R at *
  obtain ⟨N, hN⟩ : ∃ N : Nat, N = d.forks.length := ⟨_, rfl⟩
  rw [← hN] at RS few ⊢
  clear hN h1 p
  go_enter Try.func87, Try.ntmps87
  go_wp2_with fail
  refine (RS.out _ (below_alloc w _)).mono ?_
  rintro e w1 ⟨bb, rfl, kb, hbb, b1⟩
  have bw := below_call b1
  go_wp2
  go_loopg [6, 7] N (fun m s i wr => ∃ k : Nat, k + m = N ∧ i = .int .i64 ((2 + k : Nat) : Int) ∧ s = .int .i64 (cntR R k : Nat) ∧ wr = w1)
  case atStart => exact ⟨0, by omega, rfl, rfl, rfl⟩
  case round =>
    obtain ⟨k, hk, rfl, rfl, rfl⟩ := hrel
    by_cases hlt : k < N
    · have z := kb.cell (2 + k)
      rw [RA.out _ _ (by omega)] at z
      have lb := kb.lt
      have l1 := CL.out k
      have E := Lib.hid (CS.out k)
      have ki : ((2 + k : Nat) : Int) < ((2 + N : Nat) : Int) := by omega
      have kj : 2 + k < 2 + N := by omega
      have w1_ : IntKind.i64.wrap (((2 + k : Nat) : Int) + 1) = ((2 + (k + 1) : Nat) : Int) := by rw [show ((2 + k : Nat) : Int) + 1 = ((2 + (k + 1) : Nat) : Int) by omega]; exact IntWalk.i64_in _ (by omega)
      have w2_ : IntKind.i64.wrap ((cntR R k : Nat) + 1 : Int) = ((cntR R k + 1 : Nat) : Int) := by rw [show ((cntR R k : Nat) + 1 : Int) = ((cntR R k + 1 : Nat) : Int) by omega]; exact IntWalk.i64_in _ (by omega)
      cases hq : R (2 + k)
      · rw [hq] at z E
        rw [if_neg (by simp)] at E
        clear hq
        go_wp2
        go_roundg (N - (k + 1))
        case measure => omega
        case rel => exact ⟨k + 1, by omega, rfl, by rw [E.out]; rfl, rfl⟩
      · rw [hq] at z E
        rw [if_pos rfl] at E
        clear hq
        go_wp2
        go_roundg (N - (k + 1))
        case measure => omega
        case rel => exact ⟨k + 1, by omega, rfl, by rw [E.out]; simp, rfl⟩
    · obtain rfl : k = N := by omega
      have ki : ¬ ((2 + k : Nat) : Int) < ((2 + k : Nat) : Int) := by omega
      go_wp2
      go_ret
      exact ⟨rfl, bw⟩

set_option maxHeartbeats 4000000 in
theorem forks_spec (d : Dg) (nn : Int) (A : Option Addr) (n c : Nat) (w : World) (h1 : Mem.rd w w.heap.size [.slice A n c] d.forks) :
    Calls Try.prog 40 #[.agg #[.int .i64 d.vars, .slice A n c], .int .i64 nn] w (GivesInt w (forksB d nn)) := by
  obtain rfl : d.forks.length = n := rd_len h1
  have BX := Lib.hid (ci_box (w := w) (v1 := .int .i64 d.vars) (v2 := .slice A d.forks.length c) (t := 46))
  have CK := Lib.hid (fun W (B : Below w.heap.size w W) => dgValid_spec d A d.forks.length c W (Mem.rd_on h1 B))
  cases k1 : dgB d
  · rw [k1] at CK
    rw [show forksB d nn = -1 from if_neg (by rw [k1]; simp)]
    obtain ⟨v, fs⟩ := d
    dsimp only at *
    clear h1 k1
    go_enter Try.func40, Try.ntmps40
    go_wp2_with fail
    refine (CK.out _ (below_alloc w _)).mono ?_
    rintro e w1 ⟨rfl, b1⟩
    go_wp2
    go_ret
    exact ⟨rfl, below_call b1⟩
  · rw [k1] at CK
    have ok := dgB_iff.1 k1
    have few := ok.few
    have LP := Lib.hid (fun W => l8Place_any d A c nn W (by omega))
    cases q1 : isP d nn
    · rw [q1] at LP
      rw [show forksB d nn = -1 from if_neg (by rw [q1]; simp)]
      obtain ⟨v, fs⟩ := d
      dsimp only at *
      clear h1 k1 q1 ok
      go_enter Try.func40, Try.ntmps40
      go_wp2_with fail
      refine (CK.out _ (below_alloc w _)).mono ?_
      rintro e w1 ⟨rfl, b1⟩
      obtain ⟨B, x0, x1⟩ := BX.out _ b1
      go_wp2_with fail
      refine (LP.out _).mono ?_
      rintro e w2 ⟨rfl, c2⟩
      go_wp2
      go_ret
      exact ⟨rfl, B.trans (c2.mono B.size)⟩
    · rw [q1] at LP
      rw [show forksB d nn = (cntR (reachF d nn) d.forks.length : Int) from if_pos (by rw [k1, q1]; rfl)]
      have SZ := Lib.hid (fun W (B : Below w.heap.size w W) => size_spec9 d ok A c nn W (Mem.rd_on h1 B) q1)
      generalize ((cntR (reachF d nn) d.forks.length : Nat) : Int) = T at *
      obtain ⟨v, fs⟩ := d
      dsimp only at *
      clear h1 k1 q1 ok
      go_enter Try.func40, Try.ntmps40
      go_wp2_with fail
      refine (CK.out _ (below_alloc w _)).mono ?_
      rintro e w1 ⟨rfl, b1⟩
      obtain ⟨B, x0, x1⟩ := BX.out _ b1
      go_wp2_with fail
      refine (LP.out _).mono ?_
      rintro e w2 ⟨rfl, c2⟩
      have b2 := b1.trans (c2.mono b1.size)
      obtain ⟨B2, x0, x1⟩ := BX.out _ b2
      go_wp2_with fail
      refine (SZ.out _ B2).mono ?_
      rintro e w3 ⟨rfl, c3⟩
      go_wp2
      go_ret
      exact ⟨rfl, B2.trans (c3.mono B2.size)⟩

theorem truthF_any (b : Bool) (w : World) : Calls Try.prog 88 #[.bool b] w fun e w' => e = .returned (.int .i64 (if b = true then 1 else 0)) ∧ w = w' := by
  cases b <;> (go_enter Try.func88, Try.ntmps88; go_wp2; go_ret; exact ⟨rfl, rfl⟩)
/-- A row of bools without its first two. -/
theorem run_tail2 (bb N : Nat) : ∃ A', (∀ W, (Instr.sliceAt 64 (.slice (some ⟨bb, 0, none⟩) (2 + N) (2 + N)) (some (.int .i64 2)) none none).run Try.prog W = .ok (.slice A' N N) W) ∧ ∀ k, k < N → ∃ ad, A' = some ad ∧ ad.add k = ⟨bb, 2 + k, none⟩ := by
  have hu : Try.prog.underlying 64 = some (.slice (Try.prog.elem 64)) := by kernel_rfl
  have hs : ∀ W, (Go.sizeOf (Try.prog.elem 64)).run Try.prog W = .ok 1 W := fun W => by kernel_rfl
  refine ⟨if 2 + N = 2 then some ⟨bb, 0, none⟩ else some ((⟨bb, 0, none⟩ : Addr).add 2), fun W => ?_, fun k hk => ?_⟩
  · rw [run_sliceAt_slice W _ _ _ _ _ hu, run_slice_l W _ _ _ _ hu _ _ (by omega) (by omega), hs W]
    simp [Result.andThen, sliced]
  · rw [if_neg (by omega)]
    refine ⟨_, rfl, ?_⟩
    rw [add_add']
    unfold Addr.add
    rw [if_neg (by omega)]
    simp

set_option maxHeartbeats 4000000 in
theorem forks_impl (d : Dg) (nn : Int) (A : Option Addr) (n c : Nat) (w : World) (h1 : Mem.rd w w.heap.size [.slice A n c] d.forks) :
    Calls Try.prog 41 #[.agg #[.int .i64 d.vars, .slice A n c], .int .i64 nn] w (GivesInt w (forksB d nn)) := by
  obtain rfl : d.forks.length = n := rd_len h1
  have BX := Lib.hid (ci_box (w := w) (v1 := .int .i64 d.vars) (v2 := .slice A d.forks.length c) (t := 46))
  have HP := Lib.hid (fun W (B : Below w.heap.size w W) => hasPlaces_any d [nn] A d.forks.length c (some ⟨W.heap.size, 0, none⟩) 1 1 (W.alloc (.cells #[.int .i64 nn] 3)) (Mem.rd_on_alloc (Mem.rd_on h1 B) _) (rd_newD1 W nn))
  have eP : (dgB d && areP d [nn]) = (dgB d && isP d nn) := by simp [areP]
  rw [eP] at HP
  have MK0 := HP.out (w.alloc (.cells #[.int .i64 d.vars, .slice A d.forks.length c] 46)) (below_alloc _ _)
  simp only [World.size_alloc] at MK0
  cases k1 : (dgB d && isP d nn)
  · rw [k1] at MK0
    rw [show forksB d nn = -1 from if_neg (by rw [k1]; simp)]
    clear h1 k1 eP HP
    go_enter Try.func41, Try.ntmps41
    go_wp2_with fail
    refine MK0.mono ?_
    rintro e w1 ⟨rfl, b1'⟩
    have b1 := below_call b1'
    obtain ⟨B1, x0, x1⟩ := BX.out _ b1
    go_wp2
    go_ret
    exact ⟨rfl, B1⟩
  · rw [k1] at MK0
    rw [show forksB d nn = (cntR (reachF d nn) d.forks.length : Int) from if_pos k1]
    rw [Bool.and_eq_true] at k1
    obtain ⟨k1, q1⟩ := k1
    have ok := dgB_iff.1 k1
    have few := ok.few
    have RS := Lib.hid (fun W (B : Below w.heap.size w W) => comes_any d ok A c nn W (Mem.rd_on h1 B) q1)
    have CL := Lib.hid (cntR_le (reachF d nn))
    have CS : Hid (∀ m, cntR (reachF d nn) (m + 1) = cntR (reachF d nn) m + if reachF d nn (2 + m) = true then 1 else 0) := Lib.hid (fun m => rfl)
    have RA := Lib.hid (fun (m x : Nat) (h : x < m) => rchC_at m (reachF d nn) h)
    generalize reachF d nn = R at *
    obtain ⟨N, hN⟩ : ∃ N : Nat, N = d.forks.length := ⟨_, rfl⟩
    rw [← hN] at RS few MK0 BX ⊢
    clear h1 k1 q1 eP HP ok hN
    go_enter Try.func41, Try.ntmps41
    go_wp2_with fail
    refine MK0.mono ?_
    rintro e w1 ⟨rfl, b1'⟩
    have b1 := below_call b1'
    obtain ⟨B1, x0, x1⟩ := BX.out _ b1
    go_wp2_with fail
    refine (RS.out _ B1).mono ?_
    rintro e w2 ⟨bb, rfl, kb, hbb, b2⟩
    have B2 := B1.trans (b2.mono B1.size)
    obtain ⟨A', HT, HA⟩ := run_tail2 bb N
    go_wp2
    go_loopg [5, 18] N (fun m s i wr => ∃ k : Nat, k + m = N ∧ i = .int .i64 k ∧ s = .int .i64 (cntR R k : Nat) ∧ wr = w2)
    case atStart => exact ⟨0, by omega, rfl, rfl, rfl⟩
    case round =>
      obtain ⟨k, hk, rfl, rfl, rfl⟩ := hrel
      by_cases hlt : k < N
      · obtain ⟨ad, rfl, ea⟩ := HA k hlt
        have z := kb.cell (2 + k)
        rw [RA.out _ _ (by omega)] at z
        have lb := kb.lt
        have lad : (ad.add k).block < wr.heap.size := by rw [ea]; exact lb
        have l1 := CL.out k
        have E := Lib.hid (CS.out k)
        have kn : (k : Int) < N := by omega
        have w2_ : IntKind.i64.wrap ((cntR R k : Nat) + 1 : Int) = ((cntR R k + 1 : Nat) : Int) := by rw [show ((cntR R k : Nat) + 1 : Int) = ((cntR R k + 1 : Nat) : Int) by omega]; exact IntWalk.i64_in _ (by omega)
        clear HA
        cases hq : R (2 + k)
        · rw [hq] at z E
          rw [if_neg (by simp)] at E
          have TT := Lib.hid (fun W => (truthF_any false W : Calls Try.prog 88 #[.bool false] W fun e w' => e = .returned (.int .i64 0) ∧ W = w'))
          clear hq
          go_wp2_with (first | (go_at_call 88; refine (TT.out _).mono ?_; rintro e w3 ⟨rfl, rfl⟩))
          go_roundg (N - (k + 1))
          case measure => omega
          case rel => exact ⟨k + 1, by omega, by go_num, by rw [E.out]; rfl, rfl⟩
        · rw [hq] at z E
          rw [if_pos rfl] at E
          have TT := Lib.hid (fun W => (truthF_any true W : Calls Try.prog 88 #[.bool true] W fun e w' => e = .returned (.int .i64 1) ∧ W = w'))
          clear hq
          go_wp2_with (first | (go_at_call 88; refine (TT.out _).mono ?_; rintro e w3 ⟨rfl, rfl⟩))
          go_roundg (N - (k + 1))
          case measure => omega
          case rel => exact ⟨k + 1, by omega, by go_num, by rw [E.out]; simp, rfl⟩
      · obtain rfl : k = N := by omega
        go_wp2
        go_ret
        exact ⟨rfl, B2⟩
end Go.Proofs.Ytnpdeliaefjmlaa
