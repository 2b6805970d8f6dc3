/- Circuits: validity and values, in the model. -/
import Derived.Test.YtnhjcokmajejcaaDoorCiP
import Derived.Test.YtnhjcokmajejcaaDoorGen
import Derived.Test.YtnhjcokmajejcaaDoorIntApp
import Derived.Deep.RegionHeld3
namespace Go.Proofs.YtnhjcokmajejcaaDoor
open Go.RowKit

set_option maxHeartbeats 2000000 in
theorem ckValid_spec (s : Ci) (A : Option Addr) (n c : Nat) (w : World) (h : Mem.rd w w.heap.size [.slice A n c] s.gates) :
    Calls Tryd.prog 28 #[.agg #[.int .i64 s.ins, .slice A n c]] w (GivesBool w (ckB s)) := by
  have hl := rd_len h
  have hm := rd_max h
  unfold maxLen at hm
  obtain ⟨m, gs⟩ := s
  dsimp only at h hl ⊢
  have HL := Lib.hid hl
  by_cases g1 : 0 ≤ m ∧ m ≤ 12
  · by_cases g2 : n ≤ 600
    · obtain ⟨m0, m1⟩ := g1
      clear hl hm
      have BX := Lib.hid (ci_box (w := w) (v1 := .int .i64 m) (v2 := .slice A n c) (t := 29))
      go_enter Tryd.func28, Tryd.ntmps28
      go_wp2_with (first | (go_at_call 54; refine (l1In_yes ⟨m0, m1⟩ _).mono ?_; rintro e w3 ⟨rfl, rfl⟩))
      go_loopg [3] n (fun r i wr => ∃ k : Nat, k + r = n ∧ i = .int .i64 k ∧ Hid (∀ j, j < k → okG m j (el gs j)) ∧ Below (w.alloc (.cells #[.int .i64 m, .slice A n c] 29)).heap.size (w.alloc (.cells #[.int .i64 m, .slice A n c] 29)) wr)
      case atStart => exact ⟨0, by omega, rfl, Lib.hid (fun j hj => absurd hj (by omega)), Below.refl _ _⟩
      case round =>
        obtain ⟨k, hk, rfl, HA, hb⟩ := hrel
        obtain ⟨B, x0, x1⟩ := BX.out _ hb
        by_cases hlt : k < n
        · obtain ⟨ad, rfl, hbl, d0, d1⟩ := ga_at (Mem.rd_below h B) hlt
          have HG : Hid (∀ ok : okG m k (el gs k), ∀ j, j < k + 1 → okG m j (el gs j)) := Lib.hid (fun ok j hj => by
            by_cases e : j = k
            · subst e; exact ok
            · exact HA.out j (by omega))
          have HN : Hid (¬ okG m k (el gs k) → ckB ⟨m, gs⟩ = false) := Lib.hid (fun no => ckB_no (fun ok => no (ok.gate k (by show k < gs.length; rw [HL.out]; exact hlt))))
          generalize el gs k = g at *
          obtain ⟨a, b⟩ := g
          dsimp only at d0 d1
          have kn : (k : Int) < n := by omega
          by_cases a1 : 0 ≤ a ∧ a ≤ 2 * (1 + m + k) - 1
          · by_cases b1 : 0 ≤ b ∧ b ≤ 2 * (1 + m + k) - 1
            · go_wp2_with (first | (go_at_call 54; refine (l1In_yes (by omega) _).mono ?_; rintro e w3 ⟨rfl, rfl⟩))
              go_roundg (n - (k + 1))
              case measure => omega
              case rel => exact ⟨k + 1, by omega, by go_num, Lib.hid (HG.out ⟨a1.1, by show a < _; omega, b1.1, by show b < _; omega⟩), hb⟩
            · go_wp2_with (first | (go_at_call 54; first | (refine (l1In_yes (by omega) _).mono ?_; rintro e w3 ⟨rfl, rfl⟩) | (refine (l1In_no (by omega) _).mono ?_; rintro e w3 ⟨rfl, rfl⟩)))
              go_ret
              exact ⟨(congrArg (fun b => Ending.returned (.bool b)) (HN.out (fun ok => b1 ⟨ok.2.2.1, by have := ok.2.2.2; dsimp only at this; omega⟩))).symm, B⟩
          · go_wp2_with (first | (go_at_call 54; refine (l1In_no (by omega) _).mono ?_; rintro e w3 ⟨rfl, rfl⟩))
            go_ret
            exact ⟨(congrArg (fun b => Ending.returned (.bool b)) (HN.out (fun ok => a1 ⟨ok.1, by have := ok.2.1; dsimp only at this; omega⟩))).symm, B⟩
        · obtain rfl : k = n := by omega
          have HE : Hid (ckB ⟨m, gs⟩ = true) := Lib.hid (ckB_yes ⟨m0, m1, by show gs.length ≤ 600; rw [HL.out]; exact g2, fun j hj => HA.out j (by have := HL.out; dsimp only at hj; omega)⟩)
          go_wp2
          go_ret
          exact ⟨(congrArg (fun b => Ending.returned (.bool b)) HE.out).symm, B⟩
    · have e : ckB ⟨m, gs⟩ = false := ckB_no (fun ok => g2 (by have := ok.few; dsimp only at this; omega))
      rw [e]
      obtain ⟨m0, m1⟩ := g1
      clear e hl
      go_enter Tryd.func28, Tryd.ntmps28
      go_wp2_with (first | (go_at_call 54; refine (l1In_yes ⟨m0, m1⟩ _).mono ?_; rintro e w3 ⟨rfl, rfl⟩))
      go_ret
      exact ⟨rfl, below_alloc _ _⟩
  · have e : ckB ⟨m, gs⟩ = false := ckB_no (fun ok => g1 ⟨ok.lo, ok.hi⟩)
    rw [e]
    clear e hl
    go_enter Tryd.func28, Tryd.ntmps28
    go_wp2_with (first | (go_at_call 54; refine (l1In_no (by omega) _).mono ?_; rintro e w3 ⟨rfl, rfl⟩))
    go_ret
    exact ⟨rfl, below_alloc _ _⟩

theorem l7Nodes_any (s : Ci) (A : Option Addr) (c : Nat) (w : World) (h0 : 0 ≤ s.ins) (h1 : s.ins ≤ 12) (hn : s.gates.length ≤ 600) :
    Calls Tryd.prog 60 #[.agg #[.int .i64 s.ins, .slice A s.gates.length c]] w (GivesInt w s.nodes) := by
  obtain ⟨m, gs⟩ := s
  unfold Ci.nodes
  dsimp only at *
  generalize gs.length = n at *
  go_enter Tryd.func60, Tryd.ntmps60
  go_wp2
  go_ret
  exact ⟨rfl, below_alloc _ _⟩
theorem isE_yes {c : Ci} {e : Int} (h : isE c e = true) : 0 ≤ e ∧ e ≤ 2 * c.nodes - 1 := by have := isE_iff.1 h; omega
theorem isE_no {c : Ci} {e : Int} (h : isE c e = false) : e < 0 ∨ 2 * c.nodes - 1 < e := by
  unfold isE at h
  have := of_decide_eq_false h
  omega
theorem Ci.nodes_le {s : Ci} (h0 : 0 ≤ s.ins) (h1 : s.ins ≤ 12) (hn : s.gates.length ≤ 600) : 1 ≤ s.nodes ∧ s.nodes ≤ 613 := by unfold Ci.nodes; omega
theorem l7Edge_any (s : Ci) (A : Option Addr) (c : Nat) (x : Int) (w : World) (h0 : 0 ≤ s.ins) (h1 : s.ins ≤ 12) (hn : s.gates.length ≤ 600) :
    Calls Tryd.prog 29 #[.agg #[.int .i64 s.ins, .slice A s.gates.length c], .int .i64 x] w (GivesBool w (isE s x)) := by
  have N1 := Lib.hid (fun W => l7Nodes_any s A c W h0 h1 hn)
  have hN := Ci.nodes_le h0 h1 hn
  cases hE : isE s x
  · have hx := isE_no hE
    generalize s.nodes = N at *
    obtain ⟨m, gs⟩ := s
    dsimp only at *
    generalize gs.length = n at *
    clear hE
    go_enter Tryd.func29, Tryd.ntmps29
    go_wp2_with (first | (go_at_call 60; refine (N1.out _).mono ?_; rintro e w3 ⟨rfl, b3⟩) | (go_at_call 54; refine (l1In_no (by omega) _).mono ?_; rintro e w4 ⟨rfl, rfl⟩))
    go_ret
    exact ⟨rfl, below_call b3⟩
  · have hx := isE_yes hE
    generalize s.nodes = N at *
    obtain ⟨m, gs⟩ := s
    dsimp only at *
    generalize gs.length = n at *
    clear hE
    go_enter Tryd.func29, Tryd.ntmps29
    go_wp2_with (first | (go_at_call 60; refine (N1.out _).mono ?_; rintro e w3 ⟨rfl, b3⟩) | (go_at_call 54; refine (l1In_yes (by omega) _).mono ?_; rintro e w4 ⟨rfl, rfl⟩))
    go_ret
    exact ⟨rfl, below_call b3⟩
/-- An edge's halves. -/
theorem edge_parts {e : Int} (h0 : 0 ≤ e) : ∃ x d : Nat, d < 2 ∧ e = 2 * x + d ∧ (e / 2).toNat = x ∧ (e % 2 = 1 ↔ d = 1) ∧ e.tmod 2 = d ∧ e.tdiv 2 = x := by
  refine ⟨(e / 2).toNat, (e % 2).toNat, by omega, by omega, rfl, by omega, ?_, ?_⟩
  · rw [Int.tmod_eq_emod_of_nonneg h0]; omega
  · rw [Int.tdiv_eq_ediv_of_nonneg h0]; omega
theorem l7Of_any (A : Option Addr) (n c : Nat) (L : List Bool) (e : Int) (w : World) (h : Rd w w.heap.size 1 A n (ints (biL L))) (h0 : 0 ≤ e) (h1 : e < 2 * n) (hn : n ≤ 1000000) :
    Calls Tryd.prog 32 #[.slice A n c, .int .i64 e] w fun r w' => r = .returned (.int .i64 (bi (ofB L e))) ∧ w = w' := by
  have hl := h.len
  rw [biL_len] at hl
  obtain ⟨x, d, hd, ee, e1, e2, e3, e4⟩ := edge_parts h0
  have hx : x < n := by omega
  obtain ⟨ad, rfl, hbl, d0⟩ := h.int hx
  rw [ix_biL (by omega)] at d0
  have E : Hid (bi (ofB L e) = if d = 1 then 1 - bi (el L x) else bi (el L x)) := Lib.hid (by
    unfold ofB
    rw [e1]
    by_cases hd1 : d = 1
    · rw [if_pos hd1, decide_eq_true (e2.2 hd1)]; exact (bi_not _).symm
    · rw [if_neg hd1, decide_eq_false (fun h => hd1 (e2.1 h))]; simp)
  have w4 : IntKind.i64.wrap (e.tdiv 2) = (x : Int) := by rw [e4]; exact IntWalk.i64_in _ (by omega)
  have rb := bi_range (el L x)
  have hxn : (x : Int) < n := by omega
  generalize bi (el L x) = y at *
  generalize bi (ofB L e) = z at *
  obtain rfl | rfl : d = 0 ∨ d = 1 := by omega
  · rw [if_neg (by omega)] at E
    have e5 : e.tmod 2 = 0 := e3
    clear e1 e2 e4 hl h h1 e3 ee
    go_enter Tryd.func32, Tryd.ntmps32
    go_wp2
    go_ret
    exact ⟨(congrArg (fun b => Ending.returned (.int .i64 b)) E.out).symm, rfl⟩
  · rw [if_pos rfl] at E
    have e5 : e.tmod 2 = 1 := e3
    clear e1 e2 e4 hl h h1 e3 ee
    go_enter Tryd.func32, Tryd.ntmps32
    go_wp2
    go_ret
    exact ⟨(congrArg (fun b => Ending.returned (.int .i64 b)) E.out).symm, rfl⟩

end Go.Proofs.YtnhjcokmajejcaaDoor
