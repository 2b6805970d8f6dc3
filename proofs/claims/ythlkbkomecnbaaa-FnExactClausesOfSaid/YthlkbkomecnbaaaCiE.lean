/- Circuits: NodeValues and EdgeValue, in the program; EdgeValue in the model. -/
import Derived.Test.YthlkbkomecnbaaaCiM
namespace Go.Proofs.Ythlkbkomecnbaaa
open Go.RowKit

set_option maxHeartbeats 1000000 in
theorem hasEdges_any (s : Ci) (A : Option Addr) (n c : Nat) (A2 : Option Addr) (n2 c2 : Nat) (l : List Int) (w : World) (h1 : Mem.rd w w.heap.size [.slice A n c] s.gates) (h2 : Mem.rd w w.heap.size [.slice A2 n2 c2] l) :
    Calls Try.prog 70 #[.agg #[.int .i64 s.ins, .slice A n c], .slice A2 n2 c2] w (GivesBool w (ckB s && areE s l)) := by
  have CK := Lib.hid (fun W (B : Below w.heap.size w W) => ckValid_impl s A n c W (Mem.rd_on h1 B))
  have l1 := rd_len h1
  have l2 := rd_len h2
  have m2 := rd_max h2
  unfold maxLen at m2
  have BX := Lib.hid (ci_box (w := w) (v1 := .int .i64 s.ins) (v2 := .slice A n c) (t := 48))
  cases k1 : ckB s
  · rw [k1] at CK
    obtain ⟨m, gs⟩ := s
    dsimp only at *
    clear h1 h2 k1 l1
    go_enter Try.func70, Try.ntmps70
    go_wp2_with fail
    refine (CK.out _ (below_alloc _ _)).mono ?_
    rintro e w1 ⟨rfl, b1⟩
    obtain ⟨B1, x0, x1⟩ := BX.out _ b1
    go_wp2
    go_ret
    exact ⟨rfl, B1⟩
  · rw [k1] at CK
    have ok := ckB_iff.1 k1
    have HS := Lib.hid (fun W => size_any s A c W ok.lo ok.hi ok.few)
    rw [l1] at HS
    have hN := Ci.nodes_le ok.lo ok.hi ok.few
    have IE := Lib.hid (fun x => isE_iff (c := s) (e := x))
    have AE : Hid (∀ k, k < n2 → isE s (ix l k) = false → areE s l = false) := Lib.hid (fun k hk hz => by
      cases q : areE s l
      · rfl
      · have := List.all_eq_true.1 q (ix l k) (by rw [ix_lt (by omega)]; exact List.getElem_mem (by omega))
        rw [hz] at this; cases this)
    have AY : Hid ((∀ k, k < n2 → isE s (ix l k) = true) → areE s l = true) := Lib.hid (fun hz => by
      unfold areE
      rw [List.all_eq_true]
      intro x hx
      obtain ⟨j, hj, rfl⟩ := List.getElem_of_mem hx
      have := hz j (by omega)
      rwa [ix_lt hj] at this)
    have h2' := (rd_ints.1 h2).2
    generalize s.nodes = N at *
    generalize isE s = ie at *
    generalize areE s l = ae at *
    obtain ⟨m, gs⟩ := s
    dsimp only at *
    clear h1 h2 k1 l1 ok
    go_enter Try.func70, Try.ntmps70
    go_wp2_with fail
    refine (CK.out _ (below_alloc _ _)).mono ?_
    rintro e w1 ⟨rfl, b1⟩
    obtain ⟨B1, x0, x1⟩ := BX.out _ b1
    go_wp2
    go_loopg [12] n2 (fun r i wr => ∃ k : Nat, k + r = n2 ∧ i = .int .i64 k ∧ Hid (∀ j, j < k → ie (ix l j) = true) ∧ Below (w.alloc (.cells #[.int .i64 m, .slice A n c] 48)).heap.size (w.alloc (.cells #[.int .i64 m, .slice A n c] 48)) wr)
    case atStart => exact ⟨0, by omega, rfl, Lib.hid (fun j hj => absurd hj (by omega)), b1⟩
    case round =>
      clear b1 B1 x0 x1
      obtain ⟨k, hk, rfl, ha, hb⟩ := hrel
      obtain ⟨B, x0, x1⟩ := BX.out _ hb
      by_cases hlt : k < n2
      · obtain ⟨ad, rfl, hbl, d0⟩ := (h2'.below B).int hlt
        have kn : (k : Int) < n2 := by omega
        have HF := Lib.hid (AE.out k hlt)
        have HX := IE.out (ix l k)
        have HS1 : Hid (ie (ix l k) = true → ∀ j, j < k + 1 → ie (ix l j) = true) := Lib.hid (fun hz j hj => by
          by_cases e : j = k
          · subst e; exact hz
          · exact ha.out j (by omega))
        generalize ix l k = x at *
        cases hz : ie x
        · have hf := Lib.hid (HF.out hz)
          have hx : x < 0 ∨ 2 * N ≤ x := by
            rw [hz] at HX
            have : ¬ (0 ≤ x ∧ x < 2 * N) := fun q => by cases HX.2 q
            omega
          clear HX
          by_cases x0' : x < 0
          · go_wp2
            go_ret
            exact ⟨(congrArg (fun b => Ending.returned (.bool b)) (by rw [hf.out]; rfl)).symm, B⟩
          · go_wp2_with (first | (go_at_call 108; refine (HS.out _).mono ?_; rintro e w3 ⟨rfl, b3⟩) | (go_at_call 72; refine (evenEdge_any _ _ (by omega) (by omega)).mono ?_; rintro e w4 ⟨rfl, rfl⟩))
            go_ret
            exact ⟨(congrArg (fun b => Ending.returned (.bool b)) (by rw [hf.out]; rfl)).symm, B.trans (b3.mono B.size)⟩
        · obtain ⟨y0, y1⟩ := HX.1 hz
          have hs := Lib.hid (HS1.out hz)
          go_wp2_with (first | (go_at_call 108; refine (HS.out _).mono ?_; rintro e w3 ⟨rfl, b3⟩) | (go_at_call 72; refine (evenEdge_any _ _ (by omega) (by omega)).mono ?_; rintro e w4 ⟨rfl, rfl⟩))
          go_roundg (n2 - (k + 1))
          case measure => omega
          case rel => exact ⟨k + 1, by omega, by go_num, hs, hb.trans (b3.mono hb.size)⟩
      · obtain rfl : k = n2 := by omega
        have hf := Lib.hid (AY.out ha.out)
        go_wp2
        go_ret
        exact ⟨(congrArg (fun b => Ending.returned (.bool b)) (by rw [hf.out]; rfl)).symm, B⟩

theorem along_bits {L : List Bool} {e : Int} (h0 : 0 ≤ e) {x d : Nat} (hd : d < 2) (ee : e = 2 * x + d) : ∃ y : Nat, y < 2 ∧ bi (el L x) = y ∧ ((y ^^^ d : Nat) : Int) = bi (ofB L e) := by
  have hx : (e / 2).toNat = x := by omega
  unfold ofB
  rw [hx]
  obtain rfl | rfl : d = 0 ∨ d = 1 := by omega
  · rw [decide_eq_false (show ¬ e % 2 = 1 by omega)]
    cases el L x
    · exact ⟨0, by omega, rfl, rfl⟩
    · exact ⟨1, by omega, rfl, rfl⟩
  · rw [decide_eq_true (show e % 2 = 1 by omega)]
    cases el L x
    · exact ⟨0, by omega, rfl, rfl⟩
    · exact ⟨1, by omega, rfl, rfl⟩
end Go.Proofs.Ythlkbkomecnbaaa
