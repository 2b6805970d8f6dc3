/- Circuits: validity and values, in the program. -/
import Derived.Test.YthlkbkomecnbaaaCiS
import Derived.Laws.Bits64b
namespace Go.Proofs.Ythlkbkomecnbaaa
open Go.RowKit

theorem bits_xor_i64_nat (a b : Nat) (ha : a < 4611686018427387904) (hb : b < 4611686018427387904) : bits .xor .i64 (a : Int) (b : Int) = ((a ^^^ b : Nat) : Int) := by
  have hx : a ^^^ b < 2 ^ 62 := Nat.xor_lt_two_pow (by omega) (by omega)
  have h1 : (BitVec.ofInt 64 (a : Int)).toNat = a := by
    rw [BitVec.ofInt_natCast, BitVec.toNat_ofNat]; exact Nat.mod_eq_of_lt (by omega)
  have h2 : (BitVec.ofInt 64 (b : Int)).toNat = b := by
    rw [BitVec.ofInt_natCast, BitVec.toNat_ofNat]; exact Nat.mod_eq_of_lt (by omega)
  show IntKind.i64.wrap ((BitVec.ofInt 64 (a : Int) ^^^ BitVec.ofInt 64 (b : Int)).toNat : Int) = _
  rw [BitVec.toNat_xor, h1, h2, IntKind.wrap_i64]
  omega
theorem xor_bit (p d : Nat) (hd : d < 2) : p ^^^ d = if d = 1 then p / 2 * 2 + 1 - p % 2 else p := by
  have h1 : (p ^^^ d) / 2 = p / 2 := by rw [Nat.xor_div_two, show d / 2 = 0 by omega, Nat.xor_zero]
  have h2 : (p ^^^ d) % 2 = 1 ↔ ¬ (p % 2 = 1 ↔ d % 2 = 1) := Nat.xor_mod_two_eq_one
  split <;> omega

theorem evenEdge_any (x : Int) (w : World) (h0 : 0 ≤ x) (h1 : x ≤ 1000000) : Calls Try.prog 72 #[.int .i64 x] w fun e w' => e = .returned (.int .i64 (2 * x)) ∧ w = w' := by
  go_enter Try.func72, Try.ntmps72
  go_wp2
  go_ret
  exact ⟨rfl, rfl⟩

set_option maxHeartbeats 2000000 in
theorem ckValid_impl (s : Ci) (A : Option Addr) (n c : Nat) (w : World) (h : Mem.rd w w.heap.size [.slice A n c] s.gates) :
    Calls Try.prog 80 #[.agg #[.int .i64 s.ins, .slice A n c]] w (GivesBool w (ckB s)) := by
  have hl := rd_len h
  have hm := rd_max h
  unfold maxLen at hm
  obtain ⟨m, gs⟩ := s
  dsimp only at h hl ⊢
  have HL := Lib.hid hl
  by_cases g0 : 0 ≤ m
  · by_cases g1 : m ≤ 12
    · by_cases g2 : n ≤ 600
      · clear hl hm
        have BX := Lib.hid (ci_box (w := w) (v1 := .int .i64 m) (v2 := .slice A n c) (t := 48))
        go_enter Try.func80, Try.ntmps80
        go_wp2
        go_loopg [23] n (fun r i wr => ∃ k : Nat, k + r = n ∧ i = .int .i64 k ∧ Hid (∀ j, j < k → okG m j (el gs j)) ∧ Below (w.alloc (.cells #[.int .i64 m, .slice A n c] 48)).heap.size (w.alloc (.cells #[.int .i64 m, .slice A n c] 48)) wr)
        case atStart => exact ⟨0, by omega, rfl, Lib.hid (fun j hj => absurd hj (by omega)), Below.refl _ _⟩
        case round =>
          obtain ⟨k, hk, rfl, HA, hb⟩ := hrel
          obtain ⟨B, x0, x1⟩ := BX.out _ hb
          by_cases hlt : k < n
          · obtain ⟨ad, rfl, hbl, d0, d1⟩ := ga_at (Mem.rd_below h B) hlt
            have HG : Hid (∀ ok : okG m k (el gs k), ∀ j, j < k + 1 → okG m j (el gs j)) := Lib.hid (fun ok j hj => by
              by_cases e : j = k
              · subst e; exact ok
              · exact HA.out j (by omega))
            have HN : Hid (¬ okG m k (el gs k) → ckB ⟨m, gs⟩ = false) := Lib.hid (fun no => ckB_no (fun ok => no (ok.gate k (by show k < gs.length; rw [HL.out]; exact hlt))))
            generalize el gs k = g at *
            obtain ⟨a, b⟩ := g
            dsimp only at d0 d1
            have kn : (k : Int) < n := by omega
            have hx0 : w.heap.size < wr.heap.size := by have := hb.size; rw [World.size_alloc] at this; omega
            by_cases a0 : 0 ≤ a
            · by_cases a1 : a < 2 * (1 + m + k)
              · by_cases b0 : 0 ≤ b
                · by_cases b1 : b < 2 * (1 + m + k)
                  · go_wp2_with (first | (go_at_call 72; refine (evenEdge_any _ _ (by omega) (by omega)).mono ?_; rintro e w3 ⟨rfl, rfl⟩))
                    go_roundg (n - (k + 1))
                    case measure => omega
                    case rel => exact ⟨k + 1, by omega, by go_num, Lib.hid (HG.out ⟨a0, a1, b0, b1⟩), hb.alloc hb.size _⟩
                  · go_wp2_with (first | (go_at_call 72; refine (evenEdge_any _ _ (by omega) (by omega)).mono ?_; rintro e w3 ⟨rfl, rfl⟩))
                    go_ret
                    exact ⟨(congrArg (fun b => Ending.returned (.bool b)) (HN.out (fun ok => by have := ok.2.2.2; dsimp only at this; omega))).symm, B.alloc B.size _⟩
                · go_wp2_with (first | (go_at_call 72; refine (evenEdge_any _ _ (by omega) (by omega)).mono ?_; rintro e w3 ⟨rfl, rfl⟩))
                  go_ret
                  exact ⟨(congrArg (fun b => Ending.returned (.bool b)) (HN.out (fun ok => by have := ok.2.2.1; dsimp only at this; omega))).symm, B.alloc B.size _⟩
              · go_wp2_with (first | (go_at_call 72; refine (evenEdge_any _ _ (by omega) (by omega)).mono ?_; rintro e w3 ⟨rfl, rfl⟩))
                go_ret
                exact ⟨(congrArg (fun b => Ending.returned (.bool b)) (HN.out (fun ok => by have := ok.2.1; dsimp only at this; omega))).symm, B.alloc B.size _⟩
            · go_wp2_with (first | (go_at_call 72; refine (evenEdge_any _ _ (by omega) (by omega)).mono ?_; rintro e w3 ⟨rfl, rfl⟩))
              go_ret
              exact ⟨(congrArg (fun b => Ending.returned (.bool b)) (HN.out (fun ok => by have := ok.1; dsimp only at this; omega))).symm, B.alloc B.size _⟩
          · obtain rfl : k = n := by omega
            have HE : Hid (ckB ⟨m, gs⟩ = true) := Lib.hid (ckB_yes ⟨g0, g1, by show gs.length ≤ 600; rw [HL.out]; exact g2, fun j hj => HA.out j (by have := HL.out; dsimp only at hj; omega)⟩)
            go_wp2
            go_ret
            exact ⟨(congrArg (fun b => Ending.returned (.bool b)) HE.out).symm, B⟩
      · have e : ckB ⟨m, gs⟩ = false := ckB_no (fun ok => g2 (by have := ok.few; dsimp only at this; omega))
        rw [e]
        clear e hl
        go_enter Try.func80, Try.ntmps80
        go_wp2
        go_ret
        exact ⟨rfl, below_alloc _ _⟩
    · have e : ckB ⟨m, gs⟩ = false := ckB_no (fun ok => g1 ok.hi)
      rw [e]
      clear e hl
      go_enter Try.func80, Try.ntmps80
      go_wp2
      go_ret
      exact ⟨rfl, below_alloc _ _⟩
  · have e : ckB ⟨m, gs⟩ = false := ckB_no (fun ok => g0 ok.lo)
    rw [e]
    clear e hl
    go_enter Try.func80, Try.ntmps80
    go_wp2
    go_ret
    exact ⟨rfl, below_alloc _ _⟩

theorem areBits_impl (A : Option Addr) (n c : Nat) (l : List Int) (w : World) (h : Mem.rd w w.heap.size [.slice A n c] l) :
    Calls Try.prog 61 #[.slice A n c] w (GivesBool w (arB l)) := by
  have L1 := Lib.hid (rd_len h)
  have hm := rd_max h
  unfold maxLen at hm
  have h' := (rd_ints.1 h).2
  go_enter Try.func61, Try.ntmps61
  go_wp2
  go_loopg [7] n (fun m i wr => ∃ k : Nat, k + m = n ∧ i = .int .i64 k ∧ Hid (∀ j, j < k → ix l j = 0 ∨ ix l j = 1) ∧ Below w.heap.size w wr)
  case atStart => exact ⟨0, by omega, rfl, Lib.hid (fun j hj => absurd hj (by omega)), Below.refl _ _⟩
  case round =>
    obtain ⟨k, hk, rfl, ha, hb⟩ := hrel
    by_cases hlt : k < n
    · obtain ⟨ad, rfl, hbl, d0⟩ := (h'.below hb).int hlt
      have kn : (k : Int) < n := by omega
      have HF : Hid (ix l k ≠ 0 → ix l k ≠ 1 → arB l = false) := Lib.hid (fun z0 z1 => by
        cases hz : arB l
        · rfl
        · have := arB_at hz (k := k) (by rw [L1.out]; exact hlt)
          omega)
      have HS : Hid (ix l k = 0 ∨ ix l k = 1 → ∀ j, j < k + 1 → ix l j = 0 ∨ ix l j = 1) := Lib.hid (fun hz j hj => by
        by_cases e : j = k
        · subst e; exact hz
        · exact ha.out j (by omega))
      generalize ix l k = x at *
      by_cases z0 : x = 0
      · subst z0
        go_wp2
        go_roundg (n - (k + 1))
        case measure => omega
        case rel => exact ⟨k + 1, by omega, by go_num, Lib.hid (HS.out (by simp)), hb⟩
      · by_cases z1 : x = 1
        · subst z1
          go_wp2
          go_roundg (n - (k + 1))
          case measure => omega
          case rel => exact ⟨k + 1, by omega, by go_num, Lib.hid (HS.out (by simp)), hb⟩
        · have n0 : (x != 0) = true := by simp [z0]
          have n1 : (x != 1) = true := by simp [z1]
          go_wp2
          go_ret
          exact ⟨(congrArg (fun b => Ending.returned (.bool b)) (HF.out z0 z1)).symm, hb⟩
    · obtain rfl : k = n := by omega
      have E : Hid (arB l = true) := Lib.hid (by
        unfold arB
        rw [List.all_eq_true]
        intro x hx
        obtain ⟨j, hj, rfl⟩ := List.getElem_of_mem hx
        have := ha.out j (by have := L1.out; omega)
        rw [ix_lt hj] at this
        simpa using this)
      go_wp2
      go_ret
      exact ⟨(congrArg (fun b => Ending.returned (.bool b)) E.out).symm, hb⟩
end Go.Proofs.Ythlkbkomecnbaaa
