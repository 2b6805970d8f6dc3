/- Circuits: validity and values, in the model. -/
import Derived.Test.YthlkbkomecnbaaaCiP
import Derived.Test.YthlkbkomecnbaaaGen
import Derived.Test.YthlkbkomecnbaaaIntApp
import Derived.Deep.RegionHeld3
namespace Go.Proofs.Ythlkbkomecnbaaa
open Go.RowKit

set_option maxHeartbeats 2000000 in
theorem ckValid_spec (s : Ci) (A : Option Addr) (n c : Nat) (w : World) (h : Mem.rd w w.heap.size [.slice A n c] s.gates) :
    Calls Try.prog 64 #[.agg #[.int .i64 s.ins, .slice A n c]] w (GivesBool w (ckB s)) := by
  have hl := rd_len h
  have hm := rd_max h
  unfold maxLen at hm
  obtain ⟨m, gs⟩ := s
  dsimp only at h hl ⊢
  have HL := Lib.hid hl
  by_cases g1 : 0 ≤ m ∧ m ≤ 12
  · by_cases g2 : n ≤ 600
    · obtain ⟨m0, m1⟩ := g1
      clear hl hm
      have BX := Lib.hid (ci_box (w := w) (v1 := .int .i64 m) (v2 := .slice A n c) (t := 48))
      go_enter Try.func64, Try.ntmps64
      go_wp2_with (first | (go_at_call 48; refine (l1In_yes ⟨m0, m1⟩ _).mono ?_; rintro e w3 ⟨rfl, rfl⟩))
      go_loopg [3] n (fun r i wr => ∃ k : Nat, k + r = n ∧ i = .int .i64 k ∧ Hid (∀ j, j < k → okG m j (el gs j)) ∧ Below (w.alloc (.cells #[.int .i64 m, .slice A n c] 48)).heap.size (w.alloc (.cells #[.int .i64 m, .slice A n c] 48)) wr)
      case atStart => exact ⟨0, by omega, rfl, Lib.hid (fun j hj => absurd hj (by omega)), Below.refl _ _⟩
      case round =>
        obtain ⟨k, hk, rfl, HA, hb⟩ := hrel
        obtain ⟨B, x0, x1⟩ := BX.out _ hb
        by_cases hlt : k < n
        · obtain ⟨ad, rfl, hbl, d0, d1⟩ := ga_at (Mem.rd_below h B) hlt
          have HG : Hid (∀ ok : okG m k (el gs k), ∀ j, j < k + 1 → okG m j (el gs j)) := Lib.hid (fun ok j hj => by
            by_cases e : j = k
            · subst e; exact ok
            · exact HA.out j (by omega))
          have HN : Hid (¬ okG m k (el gs k) → ckB ⟨m, gs⟩ = false) := Lib.hid (fun no => ckB_no (fun ok => no (ok.gate k (by show k < gs.length; rw [HL.out]; exact hlt))))
          generalize el gs k = g at *
          obtain ⟨a, b⟩ := g
          dsimp only at d0 d1
          have kn : (k : Int) < n := by omega
          by_cases a1 : 0 ≤ a ∧ a ≤ 2 * (1 + m + k) - 1
          · by_cases b1 : 0 ≤ b ∧ b ≤ 2 * (1 + m + k) - 1
            · go_wp2_with (first | (go_at_call 48; refine (l1In_yes (by omega) _).mono ?_; rintro e w3 ⟨rfl, rfl⟩))
              go_roundg (n - (k + 1))
              case measure => omega
              case rel => exact ⟨k + 1, by omega, by go_num, Lib.hid (HG.out ⟨a1.1, by show a < _; omega, b1.1, by show b < _; omega⟩), hb⟩
            · go_wp2_with (first | (go_at_call 48; first | (refine (l1In_yes (by omega) _).mono ?_; rintro e w3 ⟨rfl, rfl⟩) | (refine (l1In_no (by omega) _).mono ?_; rintro e w3 ⟨rfl, rfl⟩)))
              go_ret
              exact ⟨(congrArg (fun b => Ending.returned (.bool b)) (HN.out (fun ok => b1 ⟨ok.2.2.1, by have := ok.2.2.2; dsimp only at this; omega⟩))).symm, B⟩
          · go_wp2_with (first | (go_at_call 48; refine (l1In_no (by omega) _).mono ?_; rintro e w3 ⟨rfl, rfl⟩))
            go_ret
            exact ⟨(congrArg (fun b => Ending.returned (.bool b)) (HN.out (fun ok => a1 ⟨ok.1, by have := ok.2.1; dsimp only at this; omega⟩))).symm, B⟩
        · obtain rfl : k = n := by omega
          have HE : Hid (ckB ⟨m, gs⟩ = true) := Lib.hid (ckB_yes ⟨m0, m1, by show gs.length ≤ 600; rw [HL.out]; exact g2, fun j hj => HA.out j (by have := HL.out; dsimp only at hj; omega)⟩)
          go_wp2
          go_ret
          exact ⟨(congrArg (fun b => Ending.returned (.bool b)) HE.out).symm, B⟩
    · have e : ckB ⟨m, gs⟩ = false := ckB_no (fun ok => g2 (by have := ok.few; dsimp only at this; omega))
      rw [e]
      obtain ⟨m0, m1⟩ := g1
      clear e hl
      go_enter Try.func64, Try.ntmps64
      go_wp2_with (first | (go_at_call 48; refine (l1In_yes ⟨m0, m1⟩ _).mono ?_; rintro e w3 ⟨rfl, rfl⟩))
      go_ret
      exact ⟨rfl, below_alloc _ _⟩
  · have e : ckB ⟨m, gs⟩ = false := ckB_no (fun ok => g1 ⟨ok.lo, ok.hi⟩)
    rw [e]
    clear e hl
    go_enter Try.func64, Try.ntmps64
    go_wp2_with (first | (go_at_call 48; refine (l1In_no (by omega) _).mono ?_; rintro e w3 ⟨rfl, rfl⟩))
    go_ret
    exact ⟨rfl, below_alloc _ _⟩

theorem l7Nodes_any (s : Ci) (A : Option Addr) (c : Nat) (w : World) (h0 : 0 ≤ s.ins) (h1 : s.ins ≤ 12) (hn : s.gates.length ≤ 600) :
    Calls Try.prog 66 #[.agg #[.int .i64 s.ins, .slice A s.gates.length c]] w (GivesInt w s.nodes) := by
  obtain ⟨m, gs⟩ := s
  unfold Ci.nodes
  dsimp only at *
  generalize gs.length = n at *
  go_enter Try.func66, Try.ntmps66
  go_wp2
  go_ret
  exact ⟨rfl, below_alloc _ _⟩
theorem isE_yes {c : Ci} {e : Int} (h : isE c e = true) : 0 ≤ e ∧ e ≤ 2 * c.nodes - 1 := by have := isE_iff.1 h; omega
theorem isE_no {c : Ci} {e : Int} (h : isE c e = false) : e < 0 ∨ 2 * c.nodes - 1 < e := by
  unfold isE at h
  have := of_decide_eq_false h
  omega
theorem Ci.nodes_le {s : Ci} (h0 : 0 ≤ s.ins) (h1 : s.ins ≤ 12) (hn : s.gates.length ≤ 600) : 1 ≤ s.nodes ∧ s.nodes ≤ 613 := by unfold Ci.nodes; omega
theorem l7Edge_any (s : Ci) (A : Option Addr) (c : Nat) (x : Int) (w : World) (h0 : 0 ≤ s.ins) (h1 : s.ins ≤ 12) (hn : s.gates.length ≤ 600) :
    Calls Try.prog 65 #[.agg #[.int .i64 s.ins, .slice A s.gates.length c], .int .i64 x] w (GivesBool w (isE s x)) := by
  have N1 := Lib.hid (fun W => l7Nodes_any s A c W h0 h1 hn)
  have hN := Ci.nodes_le h0 h1 hn
  cases hE : isE s x
  · have hx := isE_no hE
    generalize s.nodes = N at *
    obtain ⟨m, gs⟩ := s
    dsimp only at *
    generalize gs.length = n at *
    clear hE
    go_enter Try.func65, Try.ntmps65
    go_wp2_with (first | (go_at_call 66; refine (N1.out _).mono ?_; rintro e w3 ⟨rfl, b3⟩) | (go_at_call 48; refine (l1In_no (by omega) _).mono ?_; rintro e w4 ⟨rfl, rfl⟩))
    go_ret
    exact ⟨rfl, below_call b3⟩
  · have hx := isE_yes hE
    generalize s.nodes = N at *
    obtain ⟨m, gs⟩ := s
    dsimp only at *
    generalize gs.length = n at *
    clear hE
    go_enter Try.func65, Try.ntmps65
    go_wp2_with (first | (go_at_call 66; refine (N1.out _).mono ?_; rintro e w3 ⟨rfl, b3⟩) | (go_at_call 48; refine (l1In_yes (by omega) _).mono ?_; rintro e w4 ⟨rfl, rfl⟩))
    go_ret
    exact ⟨rfl, below_call b3⟩
/-- An edge's halves. -/
theorem edge_parts {e : Int} (h0 : 0 ≤ e) : ∃ x d : Nat, d < 2 ∧ e = 2 * x + d ∧ (e / 2).toNat = x ∧ (e % 2 = 1 ↔ d = 1) ∧ e.tmod 2 = d ∧ e.tdiv 2 = x := by
  refine ⟨(e / 2).toNat, (e % 2).toNat, by omega, by omega, rfl, by omega, ?_, ?_⟩
  · rw [Int.tmod_eq_emod_of_nonneg h0]; omega
  · rw [Int.tdiv_eq_ediv_of_nonneg h0]; omega
end Go.Proofs.Ythlkbkomecnbaaa
