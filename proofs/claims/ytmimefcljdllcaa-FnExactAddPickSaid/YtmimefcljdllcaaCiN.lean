/- Circuits: NodeValues and EdgeValue, in the model and in the program. -/
import Derived.Test.YtmimefcljdllcaaCiW
namespace Go.Proofs.Ytmimefcljdllcaa
open Go.RowKit

theorem gives_nil {w w' : World} (b : Below w.heap.size w w') : GivesL w ([] : List Int) (.returned (.slice none 0 0)) w' := ⟨none, 0, 0, [], rfl, own_none w', List.nodup_nil, by simp, b⟩

theorem l6AreC_any (A : Option Addr) (n c : Nat) (l : List Int) (w : World) (h : Mem.rd w w.heap.size [.slice A n c] l) :
    Calls Try.prog 41 #[.slice A n c] w (GivesBool w (arB l)) := by
  have L1 := Lib.hid (rd_len h)
  have hm := rd_max h
  unfold maxLen at hm
  have h' := (rd_ints.1 h).2
  go_enter Try.func41, Try.ntmps41
  go_wp2
  go_loopg [3] n (fun m i wr => ∃ k : Nat, k + m = n ∧ i = .int .i64 k ∧ Hid (∀ j, j < k → ix l j = 0 ∨ ix l j = 1) ∧ Below w.heap.size w wr)
  case atStart => exact ⟨0, by omega, rfl, Lib.hid (fun j hj => absurd hj (by omega)), Below.refl _ _⟩
  case round =>
    obtain ⟨k, hk, rfl, ha, hb⟩ := hrel
    by_cases hlt : k < n
    · obtain ⟨ad, rfl, hbl, d0⟩ := (h'.below hb).int hlt
      have kn : (k : Int) < n := by omega
      have HF : Hid (ix l k ≠ 0 → ix l k ≠ 1 → arB l = false) := Lib.hid (fun z0 z1 => by
        cases hz : arB l
        · rfl
        · have := arB_at hz (k := k) (by rw [L1.out]; exact hlt)
          omega)
      have HS : Hid (ix l k = 0 ∨ ix l k = 1 → ∀ j, j < k + 1 → ix l j = 0 ∨ ix l j = 1) := Lib.hid (fun hz j hj => by
        by_cases e : j = k
        · subst e; exact hz
        · exact ha.out j (by omega))
      generalize ix l k = x at *
      by_cases z : 0 ≤ x ∧ x ≤ 1
      · have hs := Lib.hid (HS.out (by omega))
        go_wp2_with (first | (go_at_call 37; refine (l1In_yes z _).mono ?_; rintro e w3 ⟨rfl, rfl⟩))
        go_roundg (n - (k + 1))
        case measure => omega
        case rel => exact ⟨k + 1, by omega, by go_num, hs, hb⟩
      · have hf := Lib.hid (HF.out (by omega) (by omega))
        go_wp2_with (first | (go_at_call 37; refine (l1In_no (by omega) _).mono ?_; rintro e w3 ⟨rfl, rfl⟩))
        go_ret
        exact ⟨(congrArg (fun b => Ending.returned (.bool b)) hf.out).symm, hb⟩
    · obtain rfl : k = n := by omega
      have E : Hid (arB l = true) := Lib.hid (by
        unfold arB
        rw [List.all_eq_true]
        intro x hx
        obtain ⟨j, hj, rfl⟩ := List.getElem_of_mem hx
        have := ha.out j (by have := L1.out; omega)
        rw [ix_lt hj] at this
        simpa using this)
      go_wp2
      go_ret
      exact ⟨(congrArg (fun b => Ending.returned (.bool b)) E.out).symm, hb⟩

set_option maxHeartbeats 1000000 in
theorem nodeValues_spec (s : Ci) (bits : List Int) (A : Option Addr) (n c : Nat) (A2 : Option Addr) (n2 c2 : Nat) (w : World) (h1 : Mem.rd w w.heap.size [.slice A n c] s.gates) (h2 : Mem.rd w w.heap.size [.slice A2 n2 c2] bits) :
    Calls Try.prog 16 #[.agg #[.int .i64 s.ins, .slice A n c], .slice A2 n2 c2] w (GivesL w (valsB s bits)) := by
  have CK := Lib.hid (fun W (B : Below w.heap.size w W) => ckValid_spec s A n c W (Mem.rd_on h1 B))
  have AR := Lib.hid (fun W (B : Below w.heap.size w W) => l6AreC_any A2 n2 c2 bits W (Mem.rd_on h2 B))
  have l2 := rd_len h2
  have m2 := rd_max h2
  unfold maxLen at m2
  have BX := Lib.hid (ci_box (w := w) (v1 := .int .i64 s.ins) (v2 := .slice A n c) (t := 29))
  have bL := valsB_len s bits
  by_cases h : ckB s = true ∧ (bits.length : Int) = s.ins ∧ arB bits = true
  · have hv : valsB s bits = biL (valTo s.gates (false :: boL bits) s.gates.length) := if_pos h
    rw [hv]
    rw [hv] at bL
    obtain ⟨k1, k2, k3⟩ := h
    have RU := Lib.hid (fun W (B : Below w.heap.size w W) => l7Run_any s A n c A2 n2 c2 bits W (Mem.rd_on h1 B) (Mem.rd_on h2 B) (ckB_iff.1 k1) k2 k3)
    rw [k1] at CK
    rw [k3] at AR
    have ne : ((n2 : Int) != s.ins) = false := by rw [← k2, l2]; simp
    generalize biL (valTo s.gates (false :: boL bits) s.gates.length) = F at *
    obtain ⟨m, gs⟩ := s
    dsimp only at *
    clear h1 h2 k1 k2 k3 hv l2
    go_enter Try.func16, Try.ntmps16
    go_wp2_with fail
    refine (CK.out _ (below_alloc _ _)).mono ?_
    rintro e w1 ⟨rfl, b1⟩
    obtain ⟨B1, x0, x1⟩ := BX.out _ b1
    go_wp2_with fail
    refine (AR.out _ B1).mono ?_
    rintro e w2 ⟨rfl, b2⟩
    have b12 := b1.trans (b2.mono b1.size)
    obtain ⟨B2, y0, y1⟩ := BX.out _ b12
    clear x0 x1
    go_wp2_with fail
    refine (RU.out _ B2).mono ?_
    rintro e w3 h3
    obtain ⟨A3, n3, c3, fp, rfl, o3, nd3, lo3, b3⟩ := givesL_of h3 (by unfold maxLen; omega)
    go_wp2
    go_ret
    exact ⟨A3, n3, c3, fp, rfl, o3, nd3, fun b hb => Nat.le_trans B2.size (lo3 b hb), B2.trans (b3.mono B2.size)⟩
  · have hv : valsB s bits = [] := if_neg h
    rw [hv]
    obtain ⟨m, gs⟩ := s
    dsimp only at *
    cases k1 : ckB ⟨m, gs⟩
    · rw [k1] at CK
      clear h1 h2 hv h k1 bL
      go_enter Try.func16, Try.ntmps16
      go_wp2_with fail
      refine (CK.out _ (below_alloc _ _)).mono ?_
      rintro e w1 ⟨rfl, b1⟩
      obtain ⟨B1, x0, x1⟩ := BX.out _ b1
      go_wp2
      go_ret
      exact gives_nil B1
    · rw [k1] at CK
      by_cases k2 : (n2 : Int) = m
      · have k3 : arB bits = false := by
          cases q : arB bits
          · rfl
          · exact absurd ⟨k1, by rw [l2]; exact k2, q⟩ h
        rw [k3] at AR
        have ne : ((n2 : Int) != m) = false := by rw [k2]; simp
        clear h1 h2 hv h k1 bL k2 k3
        go_enter Try.func16, Try.ntmps16
        go_wp2_with fail
        refine (CK.out _ (below_alloc _ _)).mono ?_
        rintro e w1 ⟨rfl, b1⟩
        obtain ⟨B1, x0, x1⟩ := BX.out _ b1
        go_wp2_with fail
        refine (AR.out _ B1).mono ?_
        rintro e w2 ⟨rfl, b2⟩
        have b12 := b1.trans (b2.mono b1.size)
        obtain ⟨B2, y0, y1⟩ := BX.out _ b12
        go_wp2
        go_ret
        exact gives_nil B2
      · have ne : ((n2 : Int) != m) = true := by simp [k2]
        clear h1 h2 hv h k1 bL k2
        go_enter Try.func16, Try.ntmps16
        go_wp2_with fail
        refine (CK.out _ (below_alloc _ _)).mono ?_
        rintro e w1 ⟨rfl, b1⟩
        obtain ⟨B1, x0, x1⟩ := BX.out _ b1
        go_wp2
        go_ret
        exact gives_nil B1
end Go.Proofs.Ytmimefcljdllcaa
