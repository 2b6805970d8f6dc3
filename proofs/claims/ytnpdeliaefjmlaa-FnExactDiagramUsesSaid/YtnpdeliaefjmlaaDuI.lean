/- Diagrams: DiagramUses, in the program. -/
import Derived.Test.YtnpdeliaefjmlaaRcI
import Derived.Test.YtnpdeliaefjmlaaDuP
import Derived.Test.YtnpdeliaefjmlaaDgK
import Derived.Test.YtnpdeliaefjmlaaDgV
import Derived.Test.YtnpdeliaefjmlaaIntApp
import Derived.Test.YtnpdeliaefjmlaaShelf
import Derived.Lib.OwnBridge
namespace Go.Proofs.Ytnpdeliaefjmlaa
open Go.RowKit
set_option maxRecDepth 100000

theorem grow_belowD (w : World) (os : Array Obj) : Below w.heap.size w (Go.Sort.grow w os) :=
  ⟨rfl, rfl, rfl, by simp [Go.Sort.grow], fun k hk => by simp [Go.Sort.grow, Array.getElem?_append_left hk]⟩

/-- A row of numbers sorted in place. -/
theorem sort_ownD (B : Nat) (t : TypeId) (A : Option Addr) (n c : Nat) (l : List Int) (w : World) (h : w.ownsRow B t 1 (.slice A n c) n (ints l)) (hB : B ≤ w.heap.size) (hn : n ≤ 4000000000) :
    Calls Try.prog 84 #[.slice A n c] w (fun e w' => e = .returned (.tuple #[]) ∧ w'.ownsRow B t 1 (.slice A n c) n (ints (l.mergeSort fun x y => decide (x ≤ y))) ∧ Below B w w') := by
  have hl : l.length = n := by have := h.1; rw [len_ints] at this; omega
  by_cases hv : Value.slice A n c = .slice none 0 0
  · injection hv with e1 e2 e3
    subst e1; subst e2; subst e3
    obtain rfl : l = [] := List.length_eq_zero_iff.1 hl
    refine (Try.slices_Sort_int_none none 0 w).mono ?_
    rintro e w' ⟨rfl, rfl⟩
    exact ⟨rfl, by rw [List.mergeSort_nil]; exact h, Below.refl _ _⟩
  · obtain ⟨g, cap, e, hb, hlt, hnc, hm, hl2, hH⟩ := Lib.holds_of_ownsRow (enc := Value.int .i64) (zs := l) h hv
    injection e with e1 _ e3
    subst e1; subst e3
    have hS := Try.slices_Sort_int g 0 c l w hH hlt (by omega)
    rw [hl] at hS
    refine hS.mono ?_
    rintro e w' ⟨rfl, q, os, rfl⟩
    have hms : (l.mergeSort fun x y => decide (x ≤ y)).length = n := by rw [List.length_mergeSort]; exact hl
    have o1 := Lib.ownsRow_putRow (enc := Value.int .i64) (zs := l) (ys := l.mergeSort fun x y => decide (x ≤ y)) (q := q) (k := n) h hms (Nat.le_refl _)
    rw [List.take_of_length_le (by omega)] at o1
    have b1 := Lib.below_putRow (enc := Value.int .i64) (q := q) (d := (l.mergeSort fun x y => decide (x ≤ y)).toArray) (Below.refl B w) hb
    exact ⟨rfl, own_below o1 (grow_belowD _ os), b1.trans ((grow_belowD _ os).mono (Nat.le_trans hB b1.size))⟩

/-- Equal neighbours of a row of numbers left out, in place. -/
theorem compact_ownD (B : Nat) (t : TypeId) (A : Option Addr) (n c : Nat) (l : List Int) (w : World) (h : w.ownsRow B t 1 (.slice A n c) n (ints l)) (hn : n ≤ 4000000000) :
    Calls Try.prog 85 #[.slice A n c] w (fun e w' => e = .returned (.slice A (Lib.compact l).length c) ∧ w'.ownsRow B t 1 (.slice A (Lib.compact l).length c) (Lib.compact l).length (ints (Lib.compact l)) ∧ Below B w w') := by
  have hl : l.length = n := by have := h.1; rw [len_ints] at this; omega
  by_cases hv : Value.slice A n c = .slice none 0 0
  · injection hv with e1 e2 e3
    subst e1; subst e2; subst e3
    obtain rfl : l = [] := List.length_eq_zero_iff.1 hl
    refine (Try.slices_Compact_int_empty none 0 w).mono ?_
    rintro e w' ⟨rfl, rfl⟩
    exact ⟨rfl, h, Below.refl _ _⟩
  · obtain ⟨g, cap, e, hb, hlt, hnc, hm, hl2, hH⟩ := Lib.holds_of_ownsRow (enc := Value.int .i64) (zs := l) h hv
    injection e with e1 _ e3
    subst e1; subst e3
    have hS := Try.slices_Compact_int g 0 c l w hH (by omega) (by omega)
    rw [hl] at hS
    refine hS.mono ?_
    rintro e w' ⟨rfl, q, rfl⟩
    have hcl := Lib.compact_length_le l
    have o1 := Lib.ownsRow_putRow (enc := Value.int .i64) (zs := l) (ys := Lib.compact l ++ List.replicate (n - (Lib.compact l).length) 0) (q := q) (k := (Lib.compact l).length) h (by simp; omega) (by omega)
    rw [List.take_left' rfl] at o1
    exact ⟨rfl, o1, Lib.below_putRow (enc := Value.int .i64) (q := q) (Below.refl B w) hb⟩


set_option maxHeartbeats 8000000 in
theorem dgUses_impl (d : Dg) (nn : Int) (A : Option Addr) (n c : Nat) (w : World) (h1 : Mem.rd w w.heap.size [.slice A n c] d.forks) :
    Calls Try.prog 35 #[.agg #[.int .i64 d.vars, .slice A n c], .int .i64 nn] w (GivesL w (dgUsesB d nn)) := by
  obtain rfl : d.forks.length = n := rd_len h1
  have BX := Lib.hid (ci_box (w := w) (v1 := .int .i64 d.vars) (v2 := .slice A d.forks.length c) (t := 46))
  have HP := Lib.hid (fun W (B : Below w.heap.size w W) => hasPlaces_any d [nn] A d.forks.length c (some ⟨W.heap.size, 0, none⟩) 1 1 (W.alloc (.cells #[.int .i64 nn] 3)) (Mem.rd_on_alloc (Mem.rd_on h1 B) _) (rd_newD1 W nn))
  have eP : (dgB d && areP d [nn]) = (dgB d && isP d nn) := by simp [areP]
  rw [eP] at HP
  have MK0 := HP.out (w.alloc (.cells #[.int .i64 d.vars, .slice A d.forks.length c] 46)) (below_alloc _ _)
  simp only [World.size_alloc] at MK0
  refine Calls.mono (R := GivesInts w (dgUsesB d nn)) ?_ (fun e w' h => givesL_of h (Nat.le_trans (dgUsesB_len d nn) (by unfold maxLen; omega)))
  cases k1 : (dgB d && isP d nn)
  · rw [k1] at MK0
    rw [show dgUsesB d nn = [] from if_neg (by rw [k1]; simp)]
    clear h1 k1 eP HP
    go_enter Try.func35, Try.ntmps35
    go_wp2_with fail
    refine MK0.mono ?_
    rintro e w1 ⟨rfl, b1'⟩
    have b1 := below_call b1'
    obtain ⟨B1, x0, x1⟩ := BX.out _ b1
    go_wp2
    go_ret
    exact ⟨_, rfl, World.ownsRow_nil _ _ _ _, B1⟩
  · rw [k1] at MK0
    rw [show dgUsesB d nn = belowD (gthR d (reachF d nn) d.forks.length) d.vars.toNat from if_pos k1]
    rw [Bool.and_eq_true] at k1
    obtain ⟨k1, q1⟩ := k1
    have ok := dgB_iff.1 k1
    have few := ok.few
    have RS := Lib.hid (fun W (B : Below w.heap.size w W) => comes_any d ok A c nn W (Mem.rd_on h1 B) q1)
    have RA := Lib.hid (fun (m x : Nat) (h : x < m) => rchC_at m (reachF d nn) h)
    have E := Lib.hid (uses_sorted ok (reachF d nn))
    generalize reachF d nn = R at *
    have GL := Lib.hid (fun k => gthR_len d R k)
    have GS : Hid (∀ k, gthR d R (k + 1) = if R (2 + k) = true then gthR d R k ++ [(el d.forks k).v] else gthR d R k) := Lib.hid (fun k => rfl)
    have G0 : Hid (ints (gthR d R 0) = ints []) := Lib.hid rfl
    have FA := Lib.hid (fun W (B : Below w.heap.size w W) k (hk : k < d.forks.length) => fk_at (Mem.rd_below h1 B) (k := k) hk)
    obtain ⟨F, hF⟩ : ∃ F, F = belowD (gthR d R d.forks.length) d.vars.toNat := ⟨_, rfl⟩
    rw [← hF] at E ⊢
    clear hF
    obtain ⟨G, hG⟩ : ∃ G, G = gthR d R := ⟨_, rfl⟩
    rw [← hG] at E GL GS G0
    obtain ⟨N, hN⟩ : ∃ N : Nat, N = d.forks.length := ⟨_, rfl⟩
    rw [← hN] at RS few MK0 BX FA E ⊢
    clear h1 k1 q1 eP HP ok hN hG
    go_enter Try.func35, Try.ntmps35
    go_wp2_with fail
    refine MK0.mono ?_
    rintro e w1 ⟨rfl, b1'⟩
    have b1 := below_call b1'
    obtain ⟨B1, x0, x1⟩ := BX.out _ b1
    go_wp2_with fail
    refine (RS.out _ B1).mono ?_
    rintro e w2 ⟨bb, rfl, kb, hbb, b2⟩
    have b2w := b1.trans (b2.mono b1.size)
    have KB2 := Lib.hid kb
    have lb := kb.lt
    obtain ⟨base, hbase⟩ : ∃ base, base = w2.heap.size := ⟨_, rfl⟩
    have lbb : bb < base := by omega
    obtain ⟨B2, x0, x1⟩ := BX.out _ b2w
    have hw : w.heap.size ≤ base := by rw [hbase]; exact B2.size
    have BB2 : Hid (Below base w2 w2) := Lib.hid (Below.refl _ _)
    have hb2 : base ≤ w2.heap.size := by omega
    have BK : Hid (∀ W, Below base w2 W → Blk W bb 4 (rchC (2 + N) R)) := Lib.hid (fun W h => kb.below h (by omega))
    have BW : Hid (∀ W, Below base w2 W → Below w.heap.size w W) := Lib.hid (fun W h => B2.trans (h.mono hw))
    clear b1 b2 b1' b2w kb hbase RS MK0 KB2 BX
    go_wp2
    go_loopg [5, 20] N (fun m v i wr => ∃ (k q : Nat), k + m = N ∧ i = .int .i64 k ∧ Hid (wr.ownsRow base 3 1 v q (ints (G k))) ∧ base ≤ wr.heap.size ∧ Hid (Below base w2 wr))
    case atStart => exact ⟨0, 0, by omega, rfl, by rw [G0.out]; exact Lib.hid (World.ownsRow_nil _ _ _ _), hb2, BB2⟩
    case round =>
      obtain ⟨k, q, hk, rfl, HO, hsz, hb⟩ := hrel
      have hql : q ≤ k := by have := HO.out.1; rw [len_ints] at this; have := GL.out k; omega
      by_cases hlt : k < N
      · have B := BW.out _ hb.out
        obtain ⟨ad, rfl, hbl, d0, d1, d2⟩ := FA.out _ B k hlt
        have hbl' : (ad.add (k * 3)).block < wr.heap.size := by rw [add_block]; omega
        have kn : (k : Int) < N := by omega
        have kbr := BK.out _ hb.out
        have z := kbr.cell (2 + k)
        rw [RA.out _ _ (by omega)] at z
        have lbr := kbr.lt
        have wi : IntKind.i64.wrap (2 + (k : Int)) = ((2 + k : Nat) : Int) := by rw [show 2 + (k : Int) = ((2 + k : Nat) : Int) by omega]; exact IntWalk.i64_in _ (by omega)
        have S := Lib.hid (GS.out k)
        clear x0 x1 kbr
        cases p : R (2 + k)
        · rw [p, if_neg (by simp)] at S
          rw [p] at z
          clear p
          go_wp2
          go_roundg (N - (k + 1))
          case measure => omega
          case rel => exact ⟨k + 1, q, by omega, by go_num, by rw [S.out]; exact Lib.hid (HO.out.alloc _), by simp; omega, Lib.hid (hb.out.alloc hsz _)⟩
        · rw [p, if_pos rfl] at S
          rw [p] at z
          clear p
          go_wp2_with (first
            | (at_builtin; refine app_int_at rfl _ _ rfl base _ q _ _ _ rfl ((HO.out.alloc _).alloc _) rfl (World.cell?_alloc_at _ _ _ _ (by simp)) (by omega) (by simp; omega) ?_; intro v' w6 ho6 hb6))
          have b6 := ((hb.out.alloc hsz _).alloc (by simp; omega) _).trans hb6
          have s6 : base ≤ w6.heap.size := by have := hb6.size; simp at this; omega
          go_roundg (N - (k + 1))
          case measure => omega
          case rel => exact ⟨k + 1, q + 1, by omega, by go_num, by rw [S.out]; exact Lib.hid ho6, s6, Lib.hid b6⟩
      · obtain rfl : N = k := by omega
        obtain ⟨A8, c8, rfl, _, _⟩ := own_form HO.out
        have kk : ¬ (N : Int) < N := by omega
        have SC := Lib.hid (sort_ownD base 3 A8 q c8 _ wr HO.out hsz (by omega))
        go_wp2_with fail
        refine SC.out.mono ?_
        rintro e w3 ⟨rfl, o3, b3⟩
        have CC := Lib.hid (compact_ownD base 3 A8 q c8 _ w3 o3 (by omega))
        clear o3
        go_wp2_with fail
        refine CC.out.mono ?_
        rintro e w4 ⟨rfl, o4, b4⟩
        go_wp2
        go_ret
        rw [E.out] at o4 ⊢
        exact ⟨_, rfl, own_lower o4 hw, BW.out _ ((hb.out.trans b3).trans b4)⟩
end Go.Proofs.Ytnpdeliaefjmlaa
