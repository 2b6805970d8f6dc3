/- When clauses are true, in the program. -/
import Derived.Test.YthlkbkomecnbaaaKtP
import Derived.Test.YthlkbkomecnbaaaKcI
import Derived.Test.YthlkbkomecnbaaaCiI
namespace Go.Proofs.Ythlkbkomecnbaaa
open Go.RowKit
set_option maxRecDepth 100000

theorem truthK_any (b : Bool) (w : World) : Calls Try.prog 105 #[.bool b] w fun e w' => e = .returned (.int .i64 (if b = true then 1 else 0)) ∧ w = w' := by
  cases b <;> (go_enter Try.func105, Try.ntmps105; go_wp2; go_ret; exact ⟨rfl, rfl⟩)

set_option maxHeartbeats 2000000 in
theorem isTrue_any (l bs : List Int) (m : Int) (A : Option Addr) (n c : Nat) (A2 : Option Addr) (n2 c2 : Nat) (w : World) (h1 : Mem.rd w w.heap.size [.slice A n c] l) (h2 : Mem.rd w w.heap.size [.slice A2 n2 c2] bs) (ok : cvB l m = true) (hb : (bs.length : Int) = m) :
    Calls Try.prog 62 #[.slice A n c, .slice A2 n2 c2] w (GivesBool w (clTB l bs)) := by
  have l1 := rd_len h1
  have l2 := rd_len h2
  have m1 := rd_max h1
  unfold maxLen at m1
  have r1 := (rd_ints.1 h1).2
  have r2 := (rd_ints.1 h2).2
  have OK := cvB_iff.1 ok
  have hm := OK.hi
  have HP := Lib.hid (fun k (hk : k < n) => lit_place OK (k := k) (by rw [l1]; exact hk))
  have HY := Lib.hid (fun k (hk : k < n) (q : litT (ix l k) bs) => clTB_yes (l := l) (bs := bs) ⟨k, by rw [l1]; exact hk, q⟩)
  have HN := Lib.hid (fun (q : ∀ k, k < n → ¬ litT (ix l k) bs) => clTB_no (l := l) (bs := bs) fun ⟨k, hk, t⟩ => q k (by rw [← l1]; exact hk) t)
  have n2m : (n2 : Int) = m := by omega
  clear h1 h2 l1 l2 ok OK hb
  generalize clTB l bs = F at *
  go_enter Try.func62, Try.ntmps62
  go_wp2
  go_loopg [9] n (fun r i wr => ∃ k : Nat, k + r = n ∧ i = .int .i64 k ∧ Hid (∀ j, j < k → ¬ litT (ix l j) bs) ∧ Below w.heap.size w wr)
  case atStart => exact ⟨0, by omega, rfl, Lib.hid (fun j hj => absurd hj (by omega)), Below.refl _ _⟩
  case round =>
    obtain ⟨k, hk, rfl, HJ, b⟩ := hrel
    by_cases hlt : k < n
    · obtain ⟨ad, rfl, hbl, d0⟩ := (r1.below b).int hlt
      obtain ⟨j, j1, j2, j3, j4⟩ := HP.out k hlt
      obtain ⟨ad2, rfl, hbl2, d1⟩ := (r2.below b).int (show j < n2 by omega)
      have HX : Hid (¬ litT (ix l k) bs → ∀ j, j < k + 1 → ¬ litT (ix l j) bs) := Lib.hid fun ok j hj => by
        by_cases z : j < k
        · exact HJ.out j z
        · obtain rfl : j = k := by omega
          exact ok
      have HF := Lib.hid (HY.out k hlt)
      have AO := Lib.hid (fun W => j3 ▸ atomOf_any (ix l k) W (by omega) (by omega))
      have w1 : IntKind.i64.wrap ((j : Int) + 1 - 1) = (j : Int) := by rw [IntWalk.i64_in _ (by omega)]; omega
      have jn : (j : Int) < n2 := by omega
      unfold litT at HX HF
      rw [j4] at HX HF
      clear j3 j4
      generalize ix bs j = v at *
      generalize ix l k = x at *
      clear j1 HJ
      by_cases xp : 0 < x
      · have xd : decide (0 < x) = true := decide_eq_true xp
        rw [if_pos xp] at HX HF
        have TT := Lib.hid (fun W => (truthK_any true W : Calls Try.prog 105 #[.bool true] W fun e w' => e = .returned (.int .i64 1) ∧ W = w'))
        clear j2
        by_cases q : v = 1
        · have HF := Lib.hid (HF.out q)
          have q2 : (v == 1) = true := by simp [q]
          clear q HX
          go_wp2
          go_quiet (first | (go_at_call 50; exact (AO.out _).mono fun e w' h => ⟨h.1, _, h.2.symm⟩) | (go_at_call 105; exact (TT.out _).mono fun e w' h => ⟨h.1, _, h.2.symm⟩))
          go_wp2
          go_ret
          exact ⟨(congrArg (fun b => Ending.returned (.bool b)) HF.out).symm, b.trans ⟨rfl, rfl, rfl, Nat.le_refl _, fun _ _ => rfl⟩⟩
        · have HX := Lib.hid (HX.out q)
          have q2 : (v == 1) = false := by simp [q]
          clear q HF
          go_wp2
          go_quiet (first | (go_at_call 50; exact (AO.out _).mono fun e w' h => ⟨h.1, _, h.2.symm⟩) | (go_at_call 105; exact (TT.out _).mono fun e w' h => ⟨h.1, _, h.2.symm⟩))
          go_wp2
          go_roundg (n - (k + 1))
          case measure => omega
          case rel => exact ⟨k + 1, by omega, by go_num, HX, b.trans ⟨rfl, rfl, rfl, Nat.le_refl _, fun _ _ => rfl⟩⟩
      · have xd : decide (0 < x) = false := decide_eq_false xp
        rw [if_neg xp] at HX HF
        have TT := Lib.hid (fun W => (truthK_any false W : Calls Try.prog 105 #[.bool false] W fun e w' => e = .returned (.int .i64 0) ∧ W = w'))
        clear j2
        by_cases q : v = 0
        · have HF := Lib.hid (HF.out q)
          have q2 : (v == 0) = true := by simp [q]
          clear q HX
          go_wp2
          go_quiet (first | (go_at_call 50; exact (AO.out _).mono fun e w' h => ⟨h.1, _, h.2.symm⟩) | (go_at_call 105; exact (TT.out _).mono fun e w' h => ⟨h.1, _, h.2.symm⟩))
          go_wp2
          go_ret
          exact ⟨(congrArg (fun b => Ending.returned (.bool b)) HF.out).symm, b.trans ⟨rfl, rfl, rfl, Nat.le_refl _, fun _ _ => rfl⟩⟩
        · have HX := Lib.hid (HX.out q)
          have q2 : (v == 0) = false := by simp [q]
          clear q HF
          go_wp2
          go_quiet (first | (go_at_call 50; exact (AO.out _).mono fun e w' h => ⟨h.1, _, h.2.symm⟩) | (go_at_call 105; exact (TT.out _).mono fun e w' h => ⟨h.1, _, h.2.symm⟩))
          go_wp2
          go_roundg (n - (k + 1))
          case measure => omega
          case rel => exact ⟨k + 1, by omega, by go_num, HX, b.trans ⟨rfl, rfl, rfl, Nat.le_refl _, fun _ _ => rfl⟩⟩
    · obtain rfl : k = n := by omega
      have HF := Lib.hid (HN.out HJ.out)
      go_wp2
      go_ret
      exact ⟨(congrArg (fun b => Ending.returned (.bool b)) HF.out).symm, b⟩

set_option maxHeartbeats 4000000 in
theorem trueIn_impl (s : Cs) (bs : List Int) (A : Option Addr) (n c : Nat) (A2 : Option Addr) (n2 c2 : Nat) (w : World) (h1 : Mem.rd w w.heap.size [.slice A n c] s.list) (h2 : Mem.rd w w.heap.size [.slice A2 n2 c2] bs) :
    Calls Try.prog 25 #[.agg #[.int .i64 s.atoms, .slice A n c], .slice A2 n2 c2] w (GivesBool w (trueInB s bs)) := by
  have CK := Lib.hid (fun W (B : Below w.heap.size w W) => clausesValid_impl s A n c W (Mem.rd_on h1 B))
  have AR := Lib.hid (fun W (B : Below w.heap.size w W) => areBits_impl A2 n2 c2 bs W (Mem.rd_on h2 B))
  have l1 := rd_len h1
  have l2 := rd_len h2
  have m1 := rd_max h1
  have m2 := rd_max h2
  unfold maxLen at m1 m2
  have BX := Lib.hid (ci_box (w := w) (v1 := .int .i64 s.atoms) (v2 := .slice A n c) (t := 31))
  by_cases k1 : csVB s = true
  · rw [k1] at CK
    by_cases k2 : (bs.length : Int) = s.atoms
    · have ne : ((n2 : Int) != s.atoms) = false := by rw [← k2, l2]; simp
      by_cases k3 : arB bs = true
      · rw [k3] at AR
        have ok : CsOk s.atoms s.list := csvB_iff.1 k1
        have HC := Lib.hid (fun k (hk : k < n) => cvB_yes (ok.all k (by rw [l1]; exact hk)))
        have HY := Lib.hid (fun (q : ∀ k, k < n → clTB (el s.list k) bs = true) => trueInB_yes (s := s) (bs := bs) ⟨k1, k2, k3, fun k hk => q k (by rw [← l1]; exact hk)⟩)
        have HN := Lib.hid (fun k (hk : k < n) (q : clTB (el s.list k) bs = false) => trueInB_no (s := s) (bs := bs) fun ok => by have := ok.2.2.2 k (by rw [l1]; exact hk); rw [q] at this; cases this)
        have K2 := Lib.hid k2
        generalize trueInB s bs = F at *
        obtain ⟨m, L⟩ := s
        dsimp only at *
        clear k1 k2 k3 ok l1 l2
        go_enter Try.func25, Try.ntmps25
        go_wp2_with fail
        refine (CK.out _ (below_alloc _ _)).mono ?_
        rintro e w1 ⟨rfl, b1⟩
        obtain ⟨B1, x0, x1⟩ := BX.out _ b1
        go_wp2_with fail
        refine (AR.out _ B1).mono ?_
        rintro e w2 ⟨rfl, b2⟩
        have b12 := b1.trans (b2.mono b1.size)
        obtain ⟨B2, y0, y1⟩ := BX.out _ b12
        clear x0 x1
        go_wp2
        go_loopg [25] n (fun r i wr => ∃ k : Nat, k + r = n ∧ i = .int .i64 k ∧ Hid (∀ j, j < k → clTB (el L j) bs = true) ∧ Below (w.alloc (.cells #[.int .i64 m, .slice A n c] 31)).heap.size (w.alloc (.cells #[.int .i64 m, .slice A n c] 31)) wr)
        case atStart => exact ⟨0, by omega, rfl, Lib.hid (fun j hj => absurd hj (by omega)), b12⟩
        case round =>
          clear b1 b2 b12 B1 B2 y0 y1
          obtain ⟨k, hk, rfl, HJ, hb⟩ := hrel
          obtain ⟨B, x0, x1⟩ := BX.out _ hb
          by_cases hlt : k < n
          · obtain ⟨ad, A1, n1, c1, rfl, hbl, d0, r1⟩ := ll_at (Mem.rd_below h1 B) hlt
            have R1 := Lib.hid (Mem.rd_more r1 B.size)
            have R2 := Lib.hid (Mem.rd_on h2 B)
            have CV := Lib.hid (fun W (hW : Mem.rd W W.heap.size [.slice A1 n1 c1] (el L k)) (hV : Mem.rd W W.heap.size [.slice A2 n2 c2] bs) => isTrue_any (el L k) bs m A1 n1 c1 A2 n2 c2 W hW hV (HC.out k hlt) K2.out)
            have HX : Hid (clTB (el L k) bs = true → ∀ j, j < k + 1 → clTB (el L j) bs = true) := Lib.hid fun ok j hj => by
              by_cases z : j < k
              · exact HJ.out j z
              · obtain rfl : j = k := by omega
                exact ok
            have HF := Lib.hid (HN.out k hlt)
            clear r1
            by_cases q : clTB (el L k) bs = true
            · have HX := Lib.hid (HX.out q)
              rw [q] at CV
              clear q HF
              go_wp2_with (first | (go_at_call 62; refine (CV.out _ R1.out R2.out).mono ?_; rintro e w3 ⟨rfl, b3⟩))
              go_roundg (n - (k + 1))
              case measure => omega
              case rel => exact ⟨k + 1, by omega, by go_num, HX, hb.trans (b3.mono hb.size)⟩
            · have q : clTB (el L k) bs = false := by simpa using q
              have HF := Lib.hid (HF.out q)
              rw [q] at CV
              clear q HX
              go_wp2_with (first | (go_at_call 62; refine (CV.out _ R1.out R2.out).mono ?_; rintro e w3 ⟨rfl, b3⟩))
              go_ret
              exact ⟨(congrArg (fun b => Ending.returned (.bool b)) HF.out).symm, B.trans (b3.mono B.size)⟩
          · obtain rfl : k = n := by omega
            have HF := Lib.hid (HY.out HJ.out)
            go_wp2
            go_ret
            exact ⟨(congrArg (fun b => Ending.returned (.bool b)) HF.out).symm, B⟩
      · have k3' : arB bs = false := by simpa using k3
        rw [k3'] at AR
        rw [trueInB_no fun ok => k3 ok.2.2.1]
        obtain ⟨m, L⟩ := s
        dsimp only at *
        clear k1 k2 k3 k3' l1 l2 h1 h2
        go_enter Try.func25, Try.ntmps25
        go_wp2_with fail
        refine (CK.out _ (below_alloc _ _)).mono ?_
        rintro e w1 ⟨rfl, b1⟩
        obtain ⟨B1, x0, x1⟩ := BX.out _ b1
        go_wp2_with fail
        refine (AR.out _ B1).mono ?_
        rintro e w2 ⟨rfl, b2⟩
        go_wp2
        go_ret
        exact ⟨rfl, B1.trans (b2.mono B1.size)⟩
    · have ne : ((n2 : Int) != s.atoms) = true := by rw [l2] at k2; simp [k2]
      rw [trueInB_no fun ok => k2 ok.2.1]
      obtain ⟨m, L⟩ := s
      dsimp only at *
      clear k1 k2 l1 l2 h1 h2
      go_enter Try.func25, Try.ntmps25
      go_wp2_with fail
      refine (CK.out _ (below_alloc _ _)).mono ?_
      rintro e w1 ⟨rfl, b1⟩
      obtain ⟨B1, x0, x1⟩ := BX.out _ b1
      go_wp2
      go_ret
      exact ⟨rfl, B1⟩
  · have k1' : csVB s = false := by simpa using k1
    rw [k1'] at CK
    rw [trueInB_no fun ok => k1 ok.1]
    obtain ⟨m, L⟩ := s
    dsimp only at *
    clear k1 k1' l1 l2 h1 h2
    go_enter Try.func25, Try.ntmps25
    go_wp2_with fail
    refine (CK.out _ (below_alloc _ _)).mono ?_
    rintro e w1 ⟨rfl, b1⟩
    obtain ⟨B1, x0, x1⟩ := BX.out _ b1
    go_wp2
    go_ret
    exact ⟨rfl, B1⟩
end Go.Proofs.Ythlkbkomecnbaaa
