/- The inputs' bits, in the program. -/
import Derived.Test.YthlkbkomecnbaaaKiP
import Derived.Test.YthlkbkomecnbaaaKoI
import Derived.Test.YthlkbkomecnbaaaCiN
namespace Go.Proofs.Ythlkbkomecnbaaa
open Go.RowKit
set_option maxRecDepth 100000

theorem atoms_any (s : Ci) (A : Option Addr) (c : Nat) (w : World) (h0 : 0 ≤ s.ins) (h1 : s.ins ≤ 12) (hn : s.gates.length ≤ 600) :
    Calls Try.prog 71 #[.agg #[.int .i64 s.ins, .slice A s.gates.length c]] w (GivesInt w (s.nodes - 1)) := by
  have N1 := Lib.hid (fun W => size_any s A c W h0 h1 hn)
  have hN := Ci.nodes_le h0 h1 hn
  generalize s.nodes = N at *
  obtain ⟨m, gs⟩ := s
  dsimp only at *
  generalize gs.length = n at *
  go_enter Try.func71, Try.ntmps71
  go_wp2_with fail
  refine (N1.out _).mono ?_
  rintro e w2 ⟨rfl, b2⟩
  go_wp2
  go_ret
  exact ⟨rfl, below_call b2⟩
theorem cloneL_any (A : Option Addr) (n c : Nat) (l : List Int) (w : World) (h : Mem.rd w w.heap.size [.slice A n c] l) (hn : n ≤ 1048576) :
    Calls Try.prog 55 #[.slice A n c] w (GivesL w l) :=
  (clone_any A n c l w h hn).mono fun _ _ q => givesL_of q (by rw [rd_len h]; unfold maxLen; omega)

set_option maxHeartbeats 4000000 in
theorem inputsOf_impl (s : Ci) (bs : List Int) (A : Option Addr) (n c : Nat) (A2 : Option Addr) (n2 c2 : Nat) (w : World) (h1 : Mem.rd w w.heap.size [.slice A n c] s.gates) (h2 : Mem.rd w w.heap.size [.slice A2 n2 c2] bs) (hc : n2 ≤ c2) :
    Calls Try.prog 35 #[.agg #[.int .i64 s.ins, .slice A n c], .slice A2 n2 c2] w (GivesL w (inputsB s bs)) := by
  have CK := Lib.hid (fun W (B : Below w.heap.size w W) => ckValid_impl s A n c W (Mem.rd_on h1 B))
  have AR := Lib.hid (fun W (B : Below w.heap.size w W) => areBits_impl A2 n2 c2 bs W (Mem.rd_on h2 B))
  have l1 := rd_len h1
  have l2 := rd_len h2
  have m2 := rd_max h2
  unfold maxLen at m2
  have BX := Lib.hid (ci_box (w := w) (v1 := .int .i64 s.ins) (v2 := .slice A n c) (t := 48))
  by_cases k1 : ckB s = true
  · rw [k1] at CK
    have OK := ckB_iff.1 k1
    have N1 := Lib.hid (fun W => atoms_any s A c W OK.lo OK.hi OK.few)
    rw [l1] at N1
    have hN := Ci.nodes_le OK.lo OK.hi OK.few
    have hins := OK.hi
    have hlo := OK.lo
    have hni : s.ins ≤ s.nodes - 1 := by unfold Ci.nodes; omega
    by_cases k2 : (bs.length : Int) = s.nodes - 1
    · by_cases k3 : arB bs = true
      · rw [k3] at AR
        have hv : inputsB s bs = bs.take s.ins.toNat := if_pos ⟨k1, k2, k3⟩
        rw [hv]
        have ne : ((n2 : Int) != s.nodes - 1) = false := by rw [← k2, l2]; simp
        obtain ⟨m, gs⟩ := s
        dsimp only at *
        obtain ⟨j, rfl⟩ : ∃ j : Nat, m = (j : Int) := ⟨m.toNat, by omega⟩
        have hj : j ≤ n2 := by omega
        have CP := Lib.hid (fun W (B : Below w.heap.size w W) => cloneL_any A2 j c2 (bs.take j) W (run_head (Mem.rd_on h2 B) hc hj rfl).2 (by omega))
        have hrun := (run_head h2 hc hj (rfl : (j : Int) = (j : Int))).1
        have e : (j : Int).toNat = j := by omega
        rw [e]
        generalize Ci.nodes ⟨(j : Int), gs⟩ = N at *
        generalize bs.take j = F at *
        clear k1 k2 k3 hv l1 l2 h1 h2 OK e
        have w1 : IntKind.i64.wrap (N - 1) = N - 1 := IntWalk.i64_in _ (by omega)
        go_enter Try.func35, Try.ntmps35
        go_wp2_with fail
        refine (CK.out _ (below_alloc _ _)).mono ?_
        rintro e w1 ⟨rfl, b1⟩
        obtain ⟨B1, x0, x1⟩ := BX.out _ b1
        go_wp2_with fail
        refine (N1.out _).mono ?_
        rintro e w2 ⟨rfl, b2⟩
        have b12 := b1.trans (b2.mono b1.size)
        obtain ⟨B2, y0, y1⟩ := BX.out _ b12
        clear x0 x1
        go_wp2_with fail
        refine (AR.out _ B2).mono ?_
        rintro e w3 ⟨rfl, b3⟩
        have b13 := b12.trans (b3.mono b12.size)
        obtain ⟨B3, z0, z1⟩ := BX.out _ b13
        clear y0 y1
        go_wp2_with fail
        refine (CP.out _ B3).mono ?_
        rintro e w4 ⟨A9, n9, c9, f9, rfl, o9, nd9, lo9, b4⟩
        go_wp2
        go_ret
        exact ⟨A9, n9, c9, f9, rfl, o9, nd9, fun x hx => Nat.le_trans B3.size (lo9 x hx), B3.trans (b4.mono B3.size)⟩
      · have k3' : arB bs = false := by simpa using k3
        rw [k3'] at AR
        have hv : inputsB s bs = [] := if_neg fun h => k3 h.2.2
        rw [hv]
        have ne : ((n2 : Int) != s.nodes - 1) = false := by rw [← k2, l2]; simp
        obtain ⟨m, gs⟩ := s
        dsimp only at *
        generalize Ci.nodes ⟨m, gs⟩ = N at *
        have w1 : IntKind.i64.wrap (N - 1) = N - 1 := IntWalk.i64_in _ (by omega)
        clear k1 k2 k3 k3' hv l1 l2 h1 h2 OK
        go_enter Try.func35, Try.ntmps35
        go_wp2_with fail
        refine (CK.out _ (below_alloc _ _)).mono ?_
        rintro e w1 ⟨rfl, b1⟩
        obtain ⟨B1, x0, x1⟩ := BX.out _ b1
        go_wp2_with fail
        refine (N1.out _).mono ?_
        rintro e w2 ⟨rfl, b2⟩
        have b12 := b1.trans (b2.mono b1.size)
        obtain ⟨B2, y0, y1⟩ := BX.out _ b12
        clear x0 x1
        go_wp2_with fail
        refine (AR.out _ B2).mono ?_
        rintro e w3 ⟨rfl, b3⟩
        go_wp2
        go_ret
        exact gives_nil (B2.trans (b3.mono B2.size))
    · have hv : inputsB s bs = [] := if_neg fun h => k2 h.2.1
      rw [hv]
      have ne : ((n2 : Int) != s.nodes - 1) = true := by rw [l2] at k2; simp [k2]
      obtain ⟨m, gs⟩ := s
      dsimp only at *
      generalize Ci.nodes ⟨m, gs⟩ = N at *
      have w1 : IntKind.i64.wrap (N - 1) = N - 1 := IntWalk.i64_in _ (by omega)
      clear k1 k2 hv l1 l2 h1 h2 OK
      go_enter Try.func35, Try.ntmps35
      go_wp2_with fail
      refine (CK.out _ (below_alloc _ _)).mono ?_
      rintro e w1 ⟨rfl, b1⟩
      obtain ⟨B1, x0, x1⟩ := BX.out _ b1
      go_wp2_with fail
      refine (N1.out _).mono ?_
      rintro e w2 ⟨rfl, b2⟩
      have b12 := b1.trans (b2.mono b1.size)
      obtain ⟨B2, y0, y1⟩ := BX.out _ b12
      go_wp2
      go_ret
      exact gives_nil B2
  · have k1' : ckB s = false := by simpa using k1
    rw [k1'] at CK
    have hv : inputsB s bs = [] := if_neg fun h => k1 h.1
    rw [hv]
    obtain ⟨m, gs⟩ := s
    dsimp only at *
    clear k1 k1' hv l1 l2 h1 h2
    go_enter Try.func35, Try.ntmps35
    go_wp2_with fail
    refine (CK.out _ (below_alloc _ _)).mono ?_
    rintro e w1 ⟨rfl, b1⟩
    obtain ⟨B1, x0, x1⟩ := BX.out _ b1
    go_wp2
    go_ret
    exact gives_nil B1
end Go.Proofs.Ythlkbkomecnbaaa
