/- When clauses are true, in the model. -/
import Derived.Test.YthlkbkomecnbaaaKtP
import Derived.Test.YthlkbkomecnbaaaKcS
import Derived.Test.YthlkbkomecnbaaaCiN
namespace Go.Proofs.Ythlkbkomecnbaaa
open Go.RowKit
set_option maxRecDepth 100000

theorem l11Is_any (x : Int) (j : Nat) (A2 : Option Addr) (n2 c2 : Nat) (bs : List Int) (w : World) (h2 : Rd w w.heap.size 1 A2 n2 (ints bs)) (hj : j < n2) (h0 : n2 ≤ 1000000) (hx : 0 < x ∧ x = (j : Int) + 1 ∨ x < 0 ∧ x = -((j : Int) + 1)) :
    Calls Try.prog 104 #[.int .i64 x, .slice A2 n2 c2] w fun e w' => e = .returned (.bool (decide (ix bs j = if 0 < x then 1 else 0))) ∧ w = w' := by
  obtain ⟨ad, rfl, hbl, d0⟩ := h2.int hj
  have w1 : IntKind.i64.wrap ((j : Int) + 1 - 1) = (j : Int) := by rw [IntWalk.i64_in _ (by omega)]; omega
  have w2 : IntKind.i64.wrap (-(-((j : Int) + 1))) = (j : Int) + 1 := by rw [IntWalk.i64_in _ (by omega)]; omega
  have hjn : (j : Int) < n2 := by omega
  generalize ix bs j = v at *
  rcases hx with ⟨x0, rfl⟩ | ⟨x0, rfl⟩
  · rw [if_pos x0]
    obtain ⟨F, hF⟩ : ∃ F, F = decide (v = 1) := ⟨_, rfl⟩
    have hb : (v == 1) = F := by rw [hF]; by_cases q : v = 1 <;> simp [q]
    rw [← hF]
    clear hF h2
    go_enter Try.func104, Try.ntmps104
    go_wp2
    go_ret
    exact ⟨by simp [hb], rfl⟩
  · rw [if_neg (by omega)]
    obtain ⟨F, hF⟩ : ∃ F, F = decide (v = 0) := ⟨_, rfl⟩
    have hb : (v == 0) = F := by rw [hF]; by_cases q : v = 0 <;> simp [q]
    rw [← hF]
    clear hF h2
    go_enter Try.func104, Try.ntmps104
    go_wp2
    go_ret
    exact ⟨by simp [hb], rfl⟩

set_option maxHeartbeats 2000000 in
theorem l11Any_any (l bs : List Int) (m : Int) (A : Option Addr) (n c : Nat) (A2 : Option Addr) (n2 c2 : Nat) (w : World) (h1 : Mem.rd w w.heap.size [.slice A n c] l) (h2 : Mem.rd w w.heap.size [.slice A2 n2 c2] bs) (ok : cvB l m = true) (hb : (bs.length : Int) = m) :
    Calls Try.prog 60 #[.slice A n c, .slice A2 n2 c2] w fun e w' => e = .returned (.bool (clTB l bs)) ∧ ∃ q, w' = w.drewN q := by
  have l1 := rd_len h1
  have l2 := rd_len h2
  have m1 := rd_max h1
  unfold maxLen at m1
  have r1 := (rd_ints.1 h1).2
  have r2 := (rd_ints.1 h2).2
  have OK := cvB_iff.1 ok
  have hm := OK.hi
  have HP := Lib.hid (fun k (hk : k < n) => lit_place OK (k := k) (by rw [l1]; exact hk))
  have HY := Lib.hid (fun k (hk : k < n) (q : litT (ix l k) bs) => clTB_yes (l := l) (bs := bs) ⟨k, by rw [l1]; exact hk, q⟩)
  have HN := Lib.hid (fun (q : ∀ k, k < n → ¬ litT (ix l k) bs) => clTB_no (l := l) (bs := bs) fun ⟨k, hk, t⟩ => q k (by rw [← l1]; exact hk) t)
  have n2m : (n2 : Int) = m := by omega
  clear h1 h2 l1 l2 ok OK hb
  generalize clTB l bs = F at *
  go_enter Try.func60, Try.ntmps60
  go_wp2
  go_loopg [5] n (fun r i wr => ∃ k q : Nat, k + r = n ∧ i = .int .i64 k ∧ Hid (∀ j, j < k → ¬ litT (ix l j) bs) ∧ Hid (wr = w.drewN q))
  case atStart => exact ⟨0, 0, by omega, rfl, Lib.hid (fun j hj => absurd hj (by omega)), Lib.hid rfl⟩
  case round =>
    obtain ⟨k, qq, hk, rfl, HJ, hw⟩ := hrel
    have b : Below w.heap.size w wr := by rw [hw.out]; exact ⟨rfl, rfl, rfl, Nat.le_refl _, fun _ _ => rfl⟩
    by_cases hlt : k < n
    · obtain ⟨ad, rfl, hbl, d0⟩ := (r1.below b).int hlt
      obtain ⟨j, j1, j2, j3, j4⟩ := HP.out k hlt
      have HX : Hid (¬ litT (ix l k) bs → ∀ j, j < k + 1 → ¬ litT (ix l j) bs) := Lib.hid fun ok j hj => by
        by_cases z : j < k
        · exact HJ.out j z
        · obtain rfl : j = k := by omega
          exact ok
      have HF := Lib.hid (HY.out k hlt)
      have IS := Lib.hid (fun W (hW : Rd W W.heap.size 1 A2 n2 (ints bs)) => l11Is_any (ix l k) j A2 n2 c2 bs W hW (by omega) (by omega) j2)
      have R2 := Lib.hid (show Rd wr wr.heap.size 1 A2 n2 (ints bs) from by rw [hw.out]; exact r2)
      unfold litT at HX HF
      rw [j4] at HX HF
      clear j1 j2 j3 j4
      by_cases q : ix bs j = if 0 < ix l k then 1 else 0
      · have HF := Lib.hid (HF.out q)
        rw [decide_eq_true q] at IS
        clear q HX
        go_wp2_with (first | (go_at_call 104; refine (IS.out _ R2.out).mono ?_; rintro e w3 ⟨rfl, rfl⟩))
        go_ret
        exact ⟨(congrArg (fun b => Ending.returned (.bool b)) HF.out).symm, qq, hw.out⟩
      · have HX := Lib.hid (HX.out q)
        rw [decide_eq_false q] at IS
        clear q HF
        go_wp2_with (first | (go_at_call 104; refine (IS.out _ R2.out).mono ?_; rintro e w3 ⟨rfl, rfl⟩))
        go_roundg (n - (k + 1))
        case measure => omega
        case rel => exact ⟨k + 1, qq, by omega, by go_num, HX, hw⟩
    · obtain rfl : k = n := by omega
      have HF := Lib.hid (HN.out HJ.out)
      go_wp2
      go_ret
      exact ⟨(congrArg (fun b => Ending.returned (.bool b)) HF.out).symm, qq, hw.out⟩

set_option maxHeartbeats 4000000 in
theorem trueIn_spec (s : Cs) (bs : List Int) (A : Option Addr) (n c : Nat) (A2 : Option Addr) (n2 c2 : Nat) (w : World) (h1 : Mem.rd w w.heap.size [.slice A n c] s.list) (h2 : Mem.rd w w.heap.size [.slice A2 n2 c2] bs) :
    Calls Try.prog 24 #[.agg #[.int .i64 s.atoms, .slice A n c], .slice A2 n2 c2] w (GivesBool w (trueInB s bs)) := by
  have CK := Lib.hid (fun W (B : Below w.heap.size w W) => clausesValid_spec s A n c W (Mem.rd_on h1 B))
  have AR := Lib.hid (fun W (B : Below w.heap.size w W) => l6AreC_any A2 n2 c2 bs W (Mem.rd_on h2 B))
  have l1 := rd_len h1
  have l2 := rd_len h2
  have m1 := rd_max h1
  have m2 := rd_max h2
  unfold maxLen at m1 m2
  have BX := Lib.hid (ci_box (w := w) (v1 := .int .i64 s.atoms) (v2 := .slice A n c) (t := 31))
  by_cases k1 : csVB s = true
  · rw [k1] at CK
    by_cases k2 : (bs.length : Int) = s.atoms
    · have ne : ((n2 : Int) != s.atoms) = false := by rw [← k2, l2]; simp
      by_cases k3 : arB bs = true
      · rw [k3] at AR
        have ok : CsOk s.atoms s.list := csvB_iff.1 k1
        have HC := Lib.hid (fun k (hk : k < n) => cvB_yes (ok.all k (by rw [l1]; exact hk)))
        have HY := Lib.hid (fun (q : ∀ k, k < n → clTB (el s.list k) bs = true) => trueInB_yes (s := s) (bs := bs) ⟨k1, k2, k3, fun k hk => q k (by rw [← l1]; exact hk)⟩)
        have HN := Lib.hid (fun k (hk : k < n) (q : clTB (el s.list k) bs = false) => trueInB_no (s := s) (bs := bs) fun ok => by have := ok.2.2.2 k (by rw [l1]; exact hk); rw [q] at this; cases this)
        have K2 := Lib.hid k2
        generalize trueInB s bs = F at *
        obtain ⟨m, L⟩ := s
        dsimp only at *
        clear k1 k2 k3 ok l1 l2
        go_enter Try.func24, Try.ntmps24
        go_wp2_with fail
        refine (CK.out _ (below_alloc _ _)).mono ?_
        rintro e w1 ⟨rfl, b1⟩
        obtain ⟨B1, x0, x1⟩ := BX.out _ b1
        go_wp2_with fail
        refine (AR.out _ B1).mono ?_
        rintro e w2 ⟨rfl, b2⟩
        have b12 := b1.trans (b2.mono b1.size)
        obtain ⟨B2, y0, y1⟩ := BX.out _ b12
        clear x0 x1
        go_wp2
        go_loopg [5] n (fun r i wr => ∃ k : Nat, k + r = n ∧ i = .int .i64 k ∧ Hid (∀ j, j < k → clTB (el L j) bs = true) ∧ Below (w.alloc (.cells #[.int .i64 m, .slice A n c] 31)).heap.size (w.alloc (.cells #[.int .i64 m, .slice A n c] 31)) wr)
        case atStart => exact ⟨0, by omega, rfl, Lib.hid (fun j hj => absurd hj (by omega)), b12⟩
        case round =>
          clear b1 b2 b12 B1 B2 y0 y1
          obtain ⟨k, hk, rfl, HJ, hb⟩ := hrel
          obtain ⟨B, x0, x1⟩ := BX.out _ hb
          by_cases hlt : k < n
          · obtain ⟨ad, A1, n1, c1, rfl, hbl, d0, r1⟩ := ll_at (Mem.rd_below h1 B) hlt
            have R1 := Lib.hid (Mem.rd_more r1 B.size)
            have R2 := Lib.hid (Mem.rd_on h2 B)
            have CV := Lib.hid (fun W (hW : Mem.rd W W.heap.size [.slice A1 n1 c1] (el L k)) (hV : Mem.rd W W.heap.size [.slice A2 n2 c2] bs) => l11Any_any (el L k) bs m A1 n1 c1 A2 n2 c2 W hW hV (HC.out k hlt) K2.out)
            have HX : Hid (clTB (el L k) bs = true → ∀ j, j < k + 1 → clTB (el L j) bs = true) := Lib.hid fun ok j hj => by
              by_cases z : j < k
              · exact HJ.out j z
              · obtain rfl : j = k := by omega
                exact ok
            have HF := Lib.hid (HN.out k hlt)
            clear r1
            by_cases q : clTB (el L k) bs = true
            · have HX := Lib.hid (HX.out q)
              rw [q] at CV
              clear q HF
              go_wp2_with (first | (go_at_call 60; refine (CV.out _ R1.out R2.out).mono ?_; rintro e w3 ⟨rfl, q3, rfl⟩))
              go_roundg (n - (k + 1))
              case measure => omega
              case rel => exact ⟨k + 1, by omega, by go_num, HX, hb.trans ⟨rfl, rfl, rfl, Nat.le_refl _, fun _ _ => rfl⟩⟩
            · have q : clTB (el L k) bs = false := by simpa using q
              have HF := Lib.hid (HF.out q)
              rw [q] at CV
              clear q HX
              go_wp2_with (first | (go_at_call 60; refine (CV.out _ R1.out R2.out).mono ?_; rintro e w3 ⟨rfl, q3, rfl⟩))
              go_ret
              exact ⟨(congrArg (fun b => Ending.returned (.bool b)) HF.out).symm, B.trans ⟨rfl, rfl, rfl, Nat.le_refl _, fun _ _ => rfl⟩⟩
          · obtain rfl : k = n := by omega
            have HF := Lib.hid (HY.out HJ.out)
            go_wp2
            go_ret
            exact ⟨(congrArg (fun b => Ending.returned (.bool b)) HF.out).symm, B⟩
      · have k3' : arB bs = false := by simpa using k3
        rw [k3'] at AR
        rw [trueInB_no fun ok => k3 ok.2.2.1]
        obtain ⟨m, L⟩ := s
        dsimp only at *
        clear k1 k2 k3 k3' l1 l2 h1 h2
        go_enter Try.func24, Try.ntmps24
        go_wp2_with fail
        refine (CK.out _ (below_alloc _ _)).mono ?_
        rintro e w1 ⟨rfl, b1⟩
        obtain ⟨B1, x0, x1⟩ := BX.out _ b1
        go_wp2_with fail
        refine (AR.out _ B1).mono ?_
        rintro e w2 ⟨rfl, b2⟩
        go_wp2
        go_ret
        exact ⟨rfl, B1.trans (b2.mono B1.size)⟩
    · have ne : ((n2 : Int) != s.atoms) = true := by rw [l2] at k2; simp [k2]
      rw [trueInB_no fun ok => k2 ok.2.1]
      obtain ⟨m, L⟩ := s
      dsimp only at *
      clear k1 k2 l1 l2 h1 h2
      go_enter Try.func24, Try.ntmps24
      go_wp2_with fail
      refine (CK.out _ (below_alloc _ _)).mono ?_
      rintro e w1 ⟨rfl, b1⟩
      obtain ⟨B1, x0, x1⟩ := BX.out _ b1
      go_wp2
      go_ret
      exact ⟨rfl, B1⟩
  · have k1' : csVB s = false := by simpa using k1
    rw [k1'] at CK
    rw [trueInB_no fun ok => k1 ok.1]
    obtain ⟨m, L⟩ := s
    dsimp only at *
    clear k1 k1' l1 l2 h1 h2
    go_enter Try.func24, Try.ntmps24
    go_wp2_with fail
    refine (CK.out _ (below_alloc _ _)).mono ?_
    rintro e w1 ⟨rfl, b1⟩
    obtain ⟨B1, x0, x1⟩ := BX.out _ b1
    go_wp2
    go_ret
    exact ⟨rfl, B1⟩
end Go.Proofs.Ythlkbkomecnbaaa
