/- The clause of some literals, in the model. -/
import Derived.Test.YthlkbkomecnbaaaKoM
import Derived.Test.YthlkbkomecnbaaaKcS
import Derived.Test.YthlkbkomecnbaaaIntApp
namespace Go.Proofs.Ythlkbkomecnbaaa
open Go.RowKit
set_option maxRecDepth 100000

theorem made_marks (l : List Int) (Z : Nat) : (madeCells (Value.int .i64 0).cells (Z * 1)).toList = ints (mkL l 0 Z) := by
  rw [Nat.mul_one]
  exact (toList_madeCells_one _ _).trans (by rw [mkL_zero]; simp [ints])
theorem ints_setK (l : List Int) (i : Nat) (v : Int) : (ints l).set i (.int .i64 v) = ints (l.set i v) := by unfold ints; rw [List.map_set]
theorem mark_cell {w : World} {g Z : Nat} {l : List Int} {k q : Nat} (K : Blk w g 3 (ints (mkL l k Z))) (hq : q < Z) : w.cell? ⟨g, q, none⟩ = some (.int .i64 (mkTo l k q)) := by
  rw [K.cell q]
  unfold ints
  rw [List.getElem?_map, List.getElem?_eq_getElem (by rw [mkL_len]; exact hq), ← ix_lt (by rw [mkL_len]; exact hq), mkL_at l k hq]
  rfl
theorem blk_drewN {w : World} {g : Nat} {t : TypeId} {cs : List Value} (h : Blk w g t cs) (n : Nat) : Blk (w.drewN n) g t cs := h

set_option maxHeartbeats 4000000 in
theorem l11Clause_any (l : List Int) (z : Nat) (h7 : z ≤ 700) (A : Option Addr) (n c : Nat) (w : World) (h : Mem.rd w w.heap.size [.slice A n c] l) (hn : n ≤ 1048576) (hl : ∀ i, i < l.length → ix l i ≠ 0 ∧ -(z : Int) ≤ ix l i ∧ ix l i ≤ z) :
    Calls Try.prog 54 #[.slice A n c, .int .i64 (z : Int)] w (GivesLB w (clauseB l z) (clauseOkB l z)) := by
  have ln := rd_len h
  have h1 := (rd_ints.1 h).2
  clear h
  have HL : Hid (∀ i, i < n → ix l i ≠ 0 ∧ -(z : Int) ≤ ix l i ∧ ix l i ≤ z) := Lib.hid fun i hi => hl i (by rw [ln]; exact hi)
  have HB : Hid (∀ k, k < n → mkTo l k (ix l k).natAbs ≠ 0 → mkTo l k (ix l k).natAbs ≠ ix l k → clauseB l z = [] ∧ clauseOkB l z = false) := Lib.hid fun k hk q1 q2 => clauseB_no (noC_bad (by rw [ln]; exact hk) q1 q2 z)
  have HG : Hid (noC l n → clauseB l z = outTo (mkTo l n) z ∧ clauseOkB l z = true) := Lib.hid fun q => by
    have := marks_clause (a := (z : Int)) (z := z) rfl (by omega) hl (by rw [ln]; exact q)
    rw [ln] at this; exact this
  have C0 := Lib.hid (made_marks l (z + 1))
  have HZ1 : Hid ((z : Int) + 1 = ((z + 1 : Nat) : Int)) := Lib.hid (by omega)
  obtain ⟨g, hg0⟩ : ∃ g, g = w.heap.size := ⟨_, rfl⟩
  have HGZ := Lib.hid hg0
  clear hg0
  clear ln hl
  go_enter Try.func54, Try.ntmps54
  go_wp2_with (first | (at_make; refine wpList_make_full _ rfl _ _ 22 rfl w.heap.size 3 intRow _ 1 Try.underlying22 int_row.1 int_row.2.1 int_row.2.2.1 _ _ _ _ (z + 1) rfl rfl HZ1.out HZ1.out (by rw [int_row.2.2.2]; omega) (by unfold maxLen; omega) (Nat.le_refl _) ?_; intro w1 hown hg))
  have hbw := (Below.refl w.heap.size w).grown hg (Nat.le_refl _) (by simp)
  have hblk := (Blk.of_own hown).1
  rw [C0.out] at hblk
  rw [← HGZ.out] at hblk hbw ⊢
  clear hown hg C0
  have HK := Lib.hid hblk
  have HB1 := Lib.hid hbw
  clear hblk hbw
  go_loopg [7] n (fun m i wr => ∃ k : Nat, k + m = n ∧ i = .int .i64 k ∧ Hid (noC l k) ∧ Hid (Blk wr g 3 (ints (mkL l k (z + 1)))) ∧ Hid (Below g w wr))
  case atStart => exact ⟨0, by omega, rfl, Lib.hid (fun i j hi => absurd hi (by omega)), HK, HB1⟩
  case round =>
    clear HK HB1
    obtain ⟨k, hk, rfl, HC, HK, HW⟩ := hrel
    by_cases hlt : k < n
    · have hb : Below w.heap.size w wr := by rw [← HGZ.out]; exact HW.out
      obtain ⟨ad, rfl, hbl, d0⟩ := (h1.below hb).int hlt
      obtain ⟨x0, x1, x2⟩ := HL.out k hlt
      obtain ⟨q, hq⟩ : ∃ q : Nat, q = (ix l k).natAbs := ⟨_, rfl⟩
      have hqz : q < z + 1 := by omega
      have m0 := mark_cell HK.out hqz
      have f0 := HK.out.frozen q
      have AX : Hid (∀ W, Calls Try.prog 47 #[.int .i64 (ix l k)] W fun e w' => e = .returned (.int .i64 (q : Int)) ∧ W = w') := Lib.hid fun W => by
        have := l11Abs_any (ix l k) W
        rw [absW_small (by omega) (by omega), ← hq] at this; exact this
      have HF := Lib.hid (HB.out k hlt)
      have HX : Hid (mkTo l k (ix l k).natAbs = 0 ∨ mkTo l k (ix l k).natAbs = ix l k → noC l (k + 1)) := Lib.hid fun s => noC_step HC.out s fun i hi => (HL.out i (by omega)).1
      have HS := Lib.hid (mkL_set l k (z + 1))
      have qi : (q : Int) < ((z + 1 : Nat) : Int) := by omega
      have qi2 : (q : Int) < (z : Int) + 1 := by omega
      rw [← hq] at HF HX HS
      clear hq x1 x2
      generalize mkTo l k q = m at *
      generalize ix l k = x at *
      by_cases g1 : m = 0
      · have HX2 := Lib.hid (HX.out (.inl g1))
        clear HX
        subst g1
        have g2 : ((0 : Int) != 0) = false := by simp
        clear HF
        go_wp2_with (first | (go_at_call 47; refine (AX.out _).mono ?_; rintro e w3 ⟨rfl, rfl⟩))
        go_quiet (fail)
        go_wp2
        go_roundg (n - (k + 1))
        case measure => omega
        case rel => exact ⟨k + 1, by omega, by go_num, HX2, Lib.hid (by rw [← HS.out, ← ints_setK]; exact (blk_drewN HK.out nq).set q (.int .i64 x)), Lib.hid ((show Below g w (wr.drewN nq) from HW.out.trans ⟨rfl, rfl, rfl, Nat.le_refl _, fun _ _ => rfl⟩).setCell (p := ⟨g, q, none⟩) (Nat.le_refl _) _)⟩
      · have g2 : (m != 0) = true := by simp [g1]
        by_cases g3 : m = x
        · have HX2 := Lib.hid (HX.out (.inr g3))
          clear HX
          have g4 : (m != x) = false := by simp [g3]
          clear HF g1 g3
          go_wp2_with (first | (go_at_call 47; refine (AX.out _).mono ?_; rintro e w3 ⟨rfl, rfl⟩))
          go_quiet (fail)
          go_wp2
          go_roundg (n - (k + 1))
          case measure => omega
          case rel => exact ⟨k + 1, by omega, by go_num, HX2, Lib.hid (by rw [← HS.out, ← ints_setK]; exact (blk_drewN HK.out nq).set q (.int .i64 x)), Lib.hid ((show Below g w (wr.drewN nq) from HW.out.trans ⟨rfl, rfl, rfl, Nat.le_refl _, fun _ _ => rfl⟩).setCell (p := ⟨g, q, none⟩) (Nat.le_refl _) _)⟩
        · have EE := Lib.hid (HF.out g1 g3)
          have g4 : (m != x) = true := by simp [g3]
          clear HX g1 g3
          go_wp2_with (first | (go_at_call 47; refine (AX.out _).mono ?_; rintro e w3 ⟨rfl, rfl⟩))
          go_quiet (fail)
          go_wp2
          go_ret2
          rw [EE.out.1, EE.out.2]
          exact ⟨none, 0, 0, [], rfl, own_none _, List.nodup_nil, by simp, hb.trans ⟨rfl, rfl, rfl, Nat.le_refl _, fun _ _ => rfl⟩⟩
    · obtain rfl : k = n := by omega
      have EE := Lib.hid (HG.out HC.out)
      have HLF : Hid (∀ b, (outTo (mkTo l k) b).length ≤ b) := Lib.hid fun b => outTo_len _ b
      have HS1 : Hid (∀ b, mkTo l k (b + 1) = 0 → outTo (mkTo l k) (b + 1) = outTo (mkTo l k) b) := Lib.hid fun b e => by
        show (if _ then _ else _) = _
        rw [if_pos e]
      have HS2 : Hid (∀ b, ¬ mkTo l k (b + 1) = 0 → outTo (mkTo l k) (b + 1) = outTo (mkTo l k) b ++ [mkTo l k (b + 1)]) := Lib.hid fun b e => by
        show (if _ then _ else _) = _
        rw [if_neg e]
      have gl : g < wr.heap.size := HK.out.lt
      have own0 : (wr.alloc (.cells #[] 3)).ownsRow (g + 1) 3 1 (.slice (some ⟨wr.heap.size, 0, none⟩) 0 0) 0 (ints []) :=
        World.ownsRow_lit (base := g + 1) (e := 3) (size := 1) wr #[] 0 (by omega) (by unfold maxLen; omega) rfl
      have HO := Lib.hid own0
      have HK2 := Lib.hid (HK.out.alloc (.cells #[] 3))
      have HW2 := Lib.hid (HW.out.alloc (Nat.le_of_lt gl) (.cells #[] 3))
      clear own0
      go_wp2
      go_loopg [9, 10] z (fun m v i wr => ∃ b : Nat, b + m = z ∧ i = .int .i64 ((b : Int) + 1) ∧ Hid (wr.ownsRow (g + 1) 3 1 v (outTo (mkTo l k) b).length (ints (outTo (mkTo l k) b))) ∧ Hid (Blk wr g 3 (ints (mkL l k (z + 1)))) ∧ Hid (Below g w wr))
      case atStart => exact ⟨0, by omega, rfl, HO, HK2, HW2⟩
      case round =>
        clear HO HK2 HW2 HK HW gl
        obtain ⟨b, hbz, rfl, HO, HK, HW⟩ := hrel
        by_cases hlt : b < z
        · have m0 := mark_cell HK.out (show b + 1 < z + 1 by omega)
          have e0 := Lib.hid (HS1.out b)
          have e1 := Lib.hid (HS2.out b)
          have HLb := Lib.hid (HLF.out b)
          have qi : ((b + 1 : Nat) : Int) < ((z + 1 : Nat) : Int) := by omega
          have qi2 : (b : Int) + 1 < (z : Int) + 1 := by omega
          have qi3 : (b : Int) + 1 ≤ (z : Int) := by omega
          generalize mkTo l k (b + 1) = m at *
          by_cases g1 : m = 0
          · have e2 := Lib.hid (e0.out g1)
            clear e0 e1
            subst g1
            go_wp2
            go_roundg (z - (b + 1))
            case measure => omega
            case rel => exact ⟨b + 1, by omega, by first | (go_num; done) | (go_num; trivial) | (congr 1; omega), by rw [e2.out]; exact HO, HK, HW⟩
          · have g2 : (m != 0) = true := by simp [g1]
            have e1 := Lib.hid (e1.out g1)
            clear e0 g1
            have gl : g < wr.heap.size := HK.out.lt
            have hLb := HLb.out
            go_wp2_with (first
              | (at_builtin; refine app_int_at rfl _ _ rfl (g + 1) _ (outTo (mkTo l k) b).length _ _ _ rfl (HO.out.alloc _) rfl (World.cell?_alloc_at _ _ _ _ (by simp)) (by omega) (by simp; omega) ?_; intro v' w6 ho6 hb6))
            go_roundg (z - (b + 1))
            case measure => omega
            case rel =>
              have K6 := (HK.out.alloc (.cells #[.int .i64 m] 3)).below hb6 (Nat.lt_succ_self g)
              have B6 := (HW.out.alloc (Nat.le_of_lt gl) (.cells #[.int .i64 m] 3)).trans (hb6.mono (Nat.le_succ g))
              exact ⟨b + 1, by omega, by first | (go_num; done) | (go_num; trivial) | (congr 1; omega), Lib.hid (by rw [e1.out, List.length_append, List.length_singleton]; exact ho6), Lib.hid K6, Lib.hid B6⟩
        · obtain rfl : b = z := by omega
          have ho := HO.out
          obtain ⟨A1, c1, rfl, hc1, _⟩ := own_form ho
          obtain ⟨fp, om, nd, lo⟩ := mem_ints ho (by have := HLF.out b; unfold maxLen; omega)
          have OM := Lib.hid om
          have hb : Below w.heap.size w wr := by rw [← HGZ.out]; exact HW.out
          clear om ho
          go_wp2
          go_ret2
          rw [EE.out.1, EE.out.2]
          exact ⟨A1, _, c1, fp, rfl, OM.out, nd, fun x hx => by have := lo x hx; rw [← HGZ.out]; omega, hb⟩

set_option maxHeartbeats 2000000 in
theorem clauseOf_spec (l : List Int) (a : Int) (A : Option Addr) (n c : Nat) (w : World) (h : Mem.rd w w.heap.size [.slice A n c] l) (hs : l.length ≤ 1048576) :
    Calls Try.prog 20 #[.slice A n c, .int .i64 a] w (GivesLB w (clauseB l a) (clauseOkB l a)) := by
  have ln := rd_len h
  have h1 := (rd_ints.1 h).2
  have hn : n ≤ 1048576 := by omega
  by_cases g0 : 0 ≤ a ∧ a ≤ 700
  · obtain ⟨z, rfl⟩ : ∃ z : Nat, a = (z : Int) := ⟨a.toNat, by omega⟩
    have g7 : z ≤ 700 := by omega
    have HC := Lib.hid (fun (q : ∀ i, i < n → litW (ix l i) z = true) W (hW : Mem.rd W W.heap.size [.slice A n c] l) => l11Clause_any l z g7 A n c W hW hn fun i hi => by
      have := (litW_iff (by omega) (by omega)).1 (q i (by rw [← ln]; exact hi)); exact this)
    have HB : Hid (∀ k, k < n → litW (ix l k) z = false → clauseB l z = [] ∧ clauseOkB l z = false) := Lib.hid fun k hk q => clauseB_no fun ⟨r, hr⟩ => by
      obtain ⟨_, _, h2, _⟩ := hr.lits
      have := (litW_iff (n := ix l k) (a := z) (by omega) (by omega)).2 (h2 _ (by rw [ix_lt (by omega)]; exact List.getElem_mem _))
      rw [q] at this; cases this
    have HH := Lib.hid h
    clear h hs ln g0
    go_enter Try.func20, Try.ntmps20
    go_wp2_with (first | (go_at_call 48; refine (l1In_yes ⟨by omega, by omega⟩ _).mono ?_; rintro e w3 ⟨rfl, rfl⟩))
    go_loopg [6] n (fun m i wr => ∃ k : Nat, k + m = n ∧ i = .int .i64 k ∧ Hid (∀ i, i < k → litW (ix l i) z = true) ∧ wr = w)
    case atStart => exact ⟨0, by omega, rfl, Lib.hid (fun i hi => absurd hi (by omega)), rfl⟩
    case round =>
      obtain ⟨k, hk, rfl, HJ, rfl⟩ := hrel
      by_cases hlt : k < n
      · obtain ⟨ad, rfl, hbl, d0⟩ := h1.int hlt
        have HX : Hid (litW (ix l k) z = true → ∀ j, j < k + 1 → litW (ix l j) z = true) := Lib.hid fun ok j hj => by
          by_cases q : j < k
          · exact HJ.out j q
          · obtain rfl : j = k := by omega
            exact ok
        have HF := Lib.hid (HB.out k hlt)
        have LT := Lib.hid (fun W => l11Lit_any (ix l k) z W)
        cases q : litW (ix l k) z
        · rw [q] at LT
          have EE := Lib.hid (HF.out q)
          clear q HX
          go_wp2_with (first | (go_at_call 46; refine (LT.out _).mono ?_; rintro e w3 ⟨rfl, rfl⟩))
          go_ret2
          rw [EE.out.1, EE.out.2]
          exact ⟨none, 0, 0, [], rfl, own_none _, List.nodup_nil, by simp, Below.refl _ _⟩
        · rw [q] at LT
          have HX2 := Lib.hid (HX.out q)
          clear q HF HX
          go_wp2_with (first | (go_at_call 46; refine (LT.out _).mono ?_; rintro e w3 ⟨rfl, rfl⟩))
          go_roundg (n - (k + 1))
          case measure => omega
          case rel => exact ⟨k + 1, by omega, by go_num, HX2, rfl⟩
      · obtain rfl : k = n := by omega
        have CC := Lib.hid (HC.out HJ.out _ HH.out)
        generalize clauseB l z = F at *
        generalize clauseOkB l z = G at *
        go_wp2_with (first | (go_at_call 54; refine CC.out.mono ?_; rintro e w3 ⟨A9, n9, c9, f9, rfl, o9, nd9, lo9, b9⟩))
        go_ret2
        exact ⟨A9, n9, c9, f9, rfl, o9, nd9, lo9, b9⟩
  · obtain ⟨e1, e2⟩ := clauseB_no (l := l) (a := a) fun ⟨r, hr⟩ => g0 ⟨hr.1.lo, hr.1.hi⟩
    rw [e1, e2]
    clear h hs ln e1 e2
    go_enter Try.func20, Try.ntmps20
    go_wp2_with (first | (go_at_call 48; refine (l1In_no (by omega) _).mono ?_; rintro e w3 ⟨rfl, rfl⟩))
    go_ret2
    exact ⟨none, 0, 0, [], rfl, own_none _, List.nodup_nil, by simp, Below.refl _ _⟩
end Go.Proofs.Ythlkbkomecnbaaa
