/- Clauses that are ones, in the program. -/
import Derived.Test.YthlkbkomecnbaaaDoorKcP
import Derived.Test.YthlkbkomecnbaaaDoorGen
import Derived.BigQuiet
namespace Go.Proofs.YthlkbkomecnbaaaDoor
open Go.RowKit
set_option maxRecDepth 100000

theorem areAtoms_any (a : Int) (w : World) : Calls Tryd.prog 23 #[.int .i64 a] w fun e w' => e = .returned (.bool (inB a 0 700)) ∧ w = w' := by
  by_cases g0 : 0 ≤ a
  · by_cases g1 : a ≤ 700
    · have e : inB a 0 700 = true := by unfold inB; simp [g0, g1]
      rw [e]; clear e
      go_enter Tryd.func23, Tryd.ntmps23
      go_wp2
      go_ret
      exact ⟨rfl, rfl⟩
    · have e : inB a 0 700 = false := by unfold inB; simp [g1]
      rw [e]; clear e
      go_enter Tryd.func23, Tryd.ntmps23
      go_wp2
      go_ret
      exact ⟨rfl, rfl⟩
  · have e : inB a 0 700 = false := by unfold inB; simp [g0]
    rw [e]; clear e
    go_enter Tryd.func23, Tryd.ntmps23
    go_wp2
    go_ret
    exact ⟨rfl, rfl⟩
theorem atomOf_any (x : Int) (w : World) (h0 : -1000000 ≤ x) (h1 : x ≤ 1000000) : Calls Tryd.prog 30 #[.int .i64 x] w fun e w' => e = .returned (.int .i64 (x.natAbs : Int)) ∧ w = w' := by
  have wx : IntKind.i64.wrap (-x) = -x := IntWalk.i64_in _ (by omega)
  by_cases g0 : 0 ≤ x
  · have e : (x.natAbs : Int) = x := by omega
    have hx : max x (-x) = x := by omega
    rw [e]; clear e
    go_enter Tryd.func30, Tryd.ntmps30
    go_wp2
    go_ret
    exact ⟨by simp, rfl⟩
  · have e : (x.natAbs : Int) = -x := by omega
    have hx : max x (-x) = -x := by omega
    rw [e]; clear e
    go_enter Tryd.func30, Tryd.ntmps30
    go_wp2
    go_ret
    exact ⟨by simp, rfl⟩

set_option maxHeartbeats 2000000 in
theorem clauseValid_impl (l : List Int) (a : Int) (A : Option Addr) (n c : Nat) (w : World) (h : Mem.rd w w.heap.size [.slice A n c] l) :
    Calls Tryd.prog 24 #[.slice A n c, .int .i64 a] w (GivesBool w (cvB l a)) := by
  have hl := Lib.hid (rd_len h)
  have hm := rd_max h
  unfold maxLen at hm
  have h1 := (rd_ints.1 h).2
  clear h
  by_cases g0 : 0 ≤ a ∧ a ≤ 700
  · obtain ⟨g0, g1⟩ := g0
    have e : inB a 0 700 = true := by unfold inB; simp [g0, g1]
    have AT := Lib.hid (fun W => e ▸ areAtoms_any a W)
    have HN : Hid (∀ k, k < n → ¬ okL l a k → cvB l a = false) := Lib.hid fun k hk q => cvB_no fun ok => q (ok.lit k (by rw [hl.out]; exact hk))
    have HY : Hid ((∀ k, k < n → okL l a k) → cvB l a = true) := Lib.hid fun q => cvB_yes ⟨g0, g1, fun k hk => q k (by rw [← hl.out]; exact hk)⟩
    clear hl e
    generalize cvB l a = F at *
    go_enter Tryd.func24, Tryd.ntmps24
    go_wp2_with (first | (go_at_call 23; refine (AT.out _).mono ?_; rintro e w3 ⟨rfl, rfl⟩))
    go_loopg [5, 13] n (fun m s i wr => ∃ k : Nat, k + m = n ∧ i = .int .i64 k ∧ s = .int .i64 (aheadL l k) ∧ Hid (∀ j, j < k → okL l a j) ∧ Below w.heap.size w wr)
    case atStart => exact ⟨0, by omega, rfl, rfl, Lib.hid (fun j hj => absurd hj (by omega)), Below.refl _ _⟩
    case round =>
      obtain ⟨k, hk, rfl, rfl, HJ, hb⟩ := hrel
      by_cases hlt : k < n
      · obtain ⟨ad, rfl, hbl, d0⟩ := (h1.below hb).int hlt
        have HX : Hid (okL l a k → ∀ j, j < k + 1 → okL l a j) := Lib.hid fun ok j hj => by
          by_cases z : j < k
          · exact HJ.out j z
          · obtain rfl : j = k := by omega
            exact ok
        have HF : Hid (¬ okL l a k → F = false) := Lib.hid (HN.out k hlt)
        have HA : Hid (aheadL l (k + 1) = ((ix l k).natAbs : Int)) := Lib.hid rfl
        unfold okL at HX HF
        have AO := Lib.hid (fun W (h0 : -1000000 ≤ ix l k) (h1 : ix l k ≤ 1000000) => atomOf_any (ix l k) W h0 h1)
        generalize aheadL l k = p at *
        obtain ⟨q, hq⟩ : ∃ q : Int, q = ((ix l k).natAbs : Int) := ⟨_, rfl⟩
        rw [← hq] at HX HF HA AO
        clear hq
        generalize ix l k = x at *
        by_cases x0 : x < -a
        · have HF := Lib.hid (HF.out fun s => by omega)
          go_wp2
          go_ret
          exact ⟨(congrArg (fun b => Ending.returned (.bool b)) HF.out).symm, hb⟩
        by_cases x1 : a < x
        · have HF := Lib.hid (HF.out fun s => by omega)
          go_wp2
          go_ret
          exact ⟨(congrArg (fun b => Ending.returned (.bool b)) HF.out).symm, hb⟩
        have AO := Lib.hid (fun W => AO.out W (by omega) (by omega))
        by_cases x2 : q ≤ p
        · have HF := Lib.hid (HF.out fun s => by omega)
          go_wp2_with (first | (go_at_call 30; refine (AO.out _).mono ?_; rintro e w3 ⟨rfl, rfl⟩))
          go_ret
          exact ⟨(congrArg (fun b => Ending.returned (.bool b)) HF.out).symm, hb⟩
        · have HX := Lib.hid (HX.out ⟨by omega, by omega, by omega⟩)
          clear HF
          go_wp2_with (first | (go_at_call 30; refine (AO.out _).mono ?_; rintro e w3 ⟨rfl, rfl⟩))
          go_roundg (n - (k + 1))
          case measure => omega
          case rel => exact ⟨k + 1, by omega, by go_num, by rw [HA.out], HX, hb⟩
      · obtain rfl : k = n := by omega
        have HF := Lib.hid (HY.out HJ.out)
        go_wp2
        go_ret
        exact ⟨(congrArg (fun b => Ending.returned (.bool b)) HF.out).symm, hb⟩
  · have e : inB a 0 700 = false := by
      unfold inB
      by_cases g : 0 ≤ a
      · simp [show ¬ a ≤ 700 by omega]
      · simp [g]
    have AT := Lib.hid (fun W => e ▸ areAtoms_any a W)
    rw [cvB_no fun ok => g0 ⟨ok.lo, ok.hi⟩]
    clear hl e
    go_enter Tryd.func24, Tryd.ntmps24
    go_wp2_with (first | (go_at_call 23; refine (AT.out _).mono ?_; rintro e w3 ⟨rfl, rfl⟩))
    go_ret
    exact ⟨rfl, Below.refl _ _⟩

set_option maxHeartbeats 2000000 in
theorem clausesValid_impl (s : Cs) (A : Option Addr) (n c : Nat) (w : World) (h : Mem.rd w w.heap.size [.slice A n c] s.list) :
    Calls Tryd.prog 13 #[.agg #[.int .i64 s.atoms, .slice A n c]] w (GivesBool w (csVB s)) := by
  have hl := Lib.hid (rd_len h)
  have hm := rd_max h
  unfold maxLen at hm
  obtain ⟨m, L⟩ := s
  unfold csVB
  dsimp only at h hl ⊢
  have BX := Lib.hid (ci_box (w := w) (v1 := .int .i64 m) (v2 := .slice A n c) (t := 27))
  by_cases g0 : 0 ≤ m ∧ m ≤ 700
  · obtain ⟨g0, g1⟩ := g0
    have e : inB m 0 700 = true := by unfold inB; simp [g0, g1]
    have AT := Lib.hid (fun W => e ▸ areAtoms_any m W)
    by_cases g2 : n ≤ 2500
    · have HN : Hid (∀ k, k < n → cvB (el L k) m = false → csvB m L = false) := Lib.hid fun k hk q => csvB_no fun ok => by
        have := cvB_yes (ok.all k (by rw [hl.out]; exact hk)); rw [q] at this; cases this
      have HY : Hid ((∀ k, k < n → cvB (el L k) m = true) → csvB m L = true) := Lib.hid fun q => csvB_yes ⟨g0, g1, by rw [hl.out]; exact g2, fun k hk => cvB_iff.1 (q k (by rw [← hl.out]; exact hk))⟩
      clear hl e
      generalize csvB m L = F at *
      go_enter Tryd.func13, Tryd.ntmps13
      go_wp2_with (first | (go_at_call 23; refine (AT.out _).mono ?_; rintro e w3 ⟨rfl, rfl⟩))
      go_loopg [18] n (fun r i wr => ∃ k : Nat, k + r = n ∧ i = .int .i64 k ∧ Hid (∀ j, j < k → cvB (el L j) m = true) ∧ Below (w.alloc (.cells #[.int .i64 m, .slice A n c] 27)).heap.size (w.alloc (.cells #[.int .i64 m, .slice A n c] 27)) wr)
      case atStart => exact ⟨0, by omega, rfl, Lib.hid (fun j hj => absurd hj (by omega)), Below.refl _ _⟩
      case round =>
        obtain ⟨k, hk, rfl, HJ, hb⟩ := hrel
        obtain ⟨B, x0, x1⟩ := BX.out _ hb
        by_cases hlt : k < n
        · obtain ⟨ad, A1, n1, c1, rfl, hbl, d0, r1⟩ := ll_at (Mem.rd_below h B) hlt
          have CV := Lib.hid (fun W (hW : Mem.rd W W.heap.size [.slice A1 n1 c1] (el L k)) => clauseValid_impl (el L k) m A1 n1 c1 W hW)
          have R1 := Lib.hid (Mem.rd_more r1 B.size)
          have HX : Hid (cvB (el L k) m = true → ∀ j, j < k + 1 → cvB (el L j) m = true) := Lib.hid fun ok j hj => by
            by_cases z : j < k
            · exact HJ.out j z
            · obtain rfl : j = k := by omega
              exact ok
          have HF := Lib.hid (HN.out k hlt)
          clear r1
          by_cases q : cvB (el L k) m = true
          · have HX := Lib.hid (HX.out q)
            rw [q] at CV
            clear q HF
            go_wp2_with (first | (go_at_call 24; refine (CV.out _ R1.out).mono ?_; rintro e w3 ⟨rfl, b3⟩))
            go_roundg (n - (k + 1))
            case measure => omega
            case rel => exact ⟨k + 1, by omega, by go_num, HX, hb.trans (b3.mono hb.size)⟩
          · have q : cvB (el L k) m = false := by simpa using q
            have HF := Lib.hid (HF.out q)
            rw [q] at CV
            clear q HX
            go_wp2_with (first | (go_at_call 24; refine (CV.out _ R1.out).mono ?_; rintro e w3 ⟨rfl, b3⟩))
            go_ret
            exact ⟨(congrArg (fun b => Ending.returned (.bool b)) HF.out).symm, B.trans (b3.mono B.size)⟩
        · obtain rfl : k = n := by omega
          have HF := Lib.hid (HY.out HJ.out)
          go_wp2
          go_ret
          exact ⟨(congrArg (fun b => Ending.returned (.bool b)) HF.out).symm, B⟩
    · rw [csvB_no fun ok => g2 (by have := ok.few; rw [hl.out] at this; exact this)]
      clear hl e
      go_enter Tryd.func13, Tryd.ntmps13
      go_wp2_with (first | (go_at_call 23; refine (AT.out _).mono ?_; rintro e w3 ⟨rfl, rfl⟩))
      go_ret
      exact ⟨rfl, below_alloc _ _⟩
  · have e : inB m 0 700 = false := by
      unfold inB
      by_cases g : 0 ≤ m
      · simp [show ¬ m ≤ 700 by omega]
      · simp [g]
    have AT := Lib.hid (fun W => e ▸ areAtoms_any m W)
    rw [csvB_no fun ok => g0 ⟨ok.lo, ok.hi⟩]
    clear hl e
    go_enter Tryd.func13, Tryd.ntmps13
    go_wp2_with (first | (go_at_call 23; refine (AT.out _).mono ?_; rintro e w3 ⟨rfl, rfl⟩))
    go_ret
    exact ⟨rfl, below_alloc _ _⟩
end Go.Proofs.YthlkbkomecnbaaaDoor
