/- The diagram of a truth's words, in the program. -/
import Derived.Test.YtnhjcokmajejcaaDoorColI
import Derived.Test.YtnhjcokmajejcaaDoorDoD
import Derived.Test.YtnhjcokmajejcaaDoorDgA
namespace Go.Proofs.YtnhjcokmajejcaaDoor
open Go.RowKit
set_option maxRecDepth 100000

/-- Parts of the number of a row. -/
theorem row_parts (row : Nat) : ∃ b r : Nat, b = row / 64 ∧ r = row % 64 ∧ r ≤ 64 ∧ (row : Int) / 64 = b ∧ (row : Int) % 64 = r ∧ (row < 4096 → b < 4096) :=
  ⟨row / 64, row % 64, rfl, rfl, by omega, by omega, by omega, by omega⟩
theorem shr_word {x r y : Nat} (hx : x < 18446744073709551616) (hy : x / 2 ^ r % 2 = y) : ∃ z : Nat, (x : Int) / 2 ^ r = (z : Int) ∧ bits BinOp.and IntKind.u64 (z : Int) 1 = (y : Int) := by
  have hl : x / 2 ^ r ≤ x := Nat.div_le_self _ _
  refine ⟨x / 2 ^ r, by simp, ?_⟩
  generalize x / 2 ^ r = z at *
  have := bits_and_u64_nat z 1 (by omega) (by omega)
  rw [Nat.and_one_is_mod] at this
  rw [← hy]
  exact this
set_option maxHeartbeats 4000000 in
theorem bitF_any (T : List Bool → Bool) (N g c cp row : Nat) (hN : N ≤ 12) (hrow : row < 2 ^ N) (W : World) (k : W.cell? ⟨cp, 0, none⟩ = some (.slice (some ⟨g, 0, none⟩) (blkN N) c)) (h : Rd W W.heap.size 1 (some ⟨g, 0, none⟩) (blkN N) (us (trL T N))) :
    Calls Tryd.prog 74 #[.int .i64 row, .pointer (some ⟨cp, 0, none⟩)] W (fun e w' => e = .returned (.int .i64 (bi (T (rowBits N row)))) ∧ W = w') := by
  have r4 : row < 4096 := by
    have : 2 ^ N ≤ 2 ^ 12 := Nat.pow_le_pow_right (by omega) hN
    omega
  obtain ⟨b, r, hbb, hrr, r64, q1, q2, b4⟩ := row_parts row
  have b4 := b4 r4
  have hb := row_blk hrow
  obtain ⟨ad, e, hbl, d0⟩ := us_read h hb
  injection e with e
  subst e
  rw [trL_at T hb, ← hbb] at d0
  rw [← hbb] at hb
  have hbK : (b : Int) < (blkN N : Nat) := by exact_mod_cast hb
  have q6 : wrap64 ((row : Int) / 64) = (b : Int) := by rw [q1]; exact IntWalk.wrap64_in _ (by omega)
  have c0 : W.cell? ⟨g, b, none⟩ = some (.int .u64 (trW T N b : Nat)) := by
    have e : (⟨g, 0, none⟩ : Addr).add b = ⟨g, b, none⟩ := by
      unfold Addr.add
      by_cases q : b = 0
      · subst q; simp
      · simp [q]
    rw [← e]; exact d0
  obtain ⟨y, hy⟩ : ∃ y : Nat, y = (bi (T (rowBits N row))).toNat := ⟨_, rfl⟩
  have ey : bi (T (rowBits N row)) = (y : Int) := by rw [hy]; cases T (rowBits N row) <;> rfl
  have y2 : y < 2 := by rw [hy]; cases T (rowBits N row) <;> decide
  have tb := trW_bit T N row
  rw [← hbb, ← hrr, ← hy] at tb
  obtain ⟨z, hz1, hz2⟩ := shr_word (trW_lt T N b) tb
  rw [ey]
  clear hy ey tb h hrow
  generalize trW T N b = x at *
  generalize blkN N = K at *
  have w1 : IntKind.i64.wrap (y : Int) = (y : Int) := IntWalk.i64_in _ (by omega)
  have w2 : wrap64 (y : Int) = (y : Int) := IntWalk.wrap64_in _ (by omega)
  clear hbb hrr hN hb
  go_enter Tryd.func74, Tryd.ntmps74
  go_wp2
  go_ret
  exact ⟨rfl, rfl⟩

/-- The call gives a diagram in a row of the call's own, and a place. -/
def GivesDgO (w : World) (R : Dg × Int) (e : Ending) (w' : World) : Prop :=
  ∃ A c, e = .returned (.tuple #[.agg #[.int .i64 R.1.vars, .slice A R.1.forks.length c], .int .i64 R.2]) ∧ w'.ownsRow w.heap.size 108 3 (.slice A R.1.forks.length c) R.1.forks.length (fl R.1.forks) ∧ Below w.heap.size w w'
set_option maxHeartbeats 4000000 in
theorem dgTruths_any (T : List Bool → Bool) (N g c : Nat) (hN : N ≤ 12) (w : World) (h : Rd w w.heap.size 1 (some ⟨g, 0, none⟩) (blkN N) (us (trL T N))) :
    Calls Tryd.prog 40 #[.int .i64 N, .slice (some ⟨g, 0, none⟩) (blkN N) c] w (GivesDgO w (roF N ⟨N, []⟩ 0 (rowsT N T))) := by
  have BX := Lib.hid (two_boxes w #[.slice (some ⟨g, 0, none⟩) (blkN N) c] #[.int .i64 0, .slice none 0 0] 63 35)
  have HRd := Lib.hid (fun W (B : Below w.heap.size w W) => show Rd W W.heap.size 1 (some ⟨g, 0, none⟩) (blkN N) (us (trL T N)) from by
    refine ⟨h.1, fun hn => ?_⟩
    obtain ⟨ad, e, hb, hc⟩ := h.2 hn
    exact ⟨ad, e, Nat.lt_of_lt_of_le hb B.size, fun i u hu => cell_below B (by rw [add_block]; exact hb) (hc i u hu)⟩)
  obtain ⟨W0, hW0⟩ : ∃ W0, W0 = (w.alloc (.cells #[.slice (some ⟨g, 0, none⟩) (blkN N) c] 63)).alloc (.cells #[.int .i64 0, .slice none 0 0] 35) := ⟨_, rfl⟩
  have OR := Lib.hid (fun (g1 : Nat) (w1 : World) (hM : MkD w1 W0.heap.size g1 ⟨N, []⟩ false 0) (b1 : Below W0.heap.size W0 w1) =>
    ofRows_any ⟨w.heap.size, 0, none⟩ (fun r => bi (T (rowBits N r))) (fun r => bi_01 _) W0 W0.heap.size g1 N hN (Lib.hid (fun W row B hr => by
      rw [hW0] at B
      obtain ⟨B', k0, _⟩ := BX.out W B
      exact bitF_any T N g c w.heap.size row hN hr W (k0.cell 0) (HRd.out W B'))) N ⟨N, []⟩ 0 0 0 w1 hM b1.size b1 rfl (by omega) (by decide) (ro2_le hN _))
  rw [lsR_rows] at OR
  have HF := Lib.hid (roF_ok N ⟨N, []⟩ 0 (rowsT N T) (ok_empty (by omega) (by omega)) (Int.le_refl 0) (by show (0 : Int) + N = N; omega) (rowsT_len N T) (rowsT_01 N T) (ro2_le hN _))
  rw [show ((0 : Nat) : Int) = 0 from rfl] at OR
  have few := (HF.out).2.1.few
  have EM := Lib.hid (fun (W : World) => empty_any (N : Int) 0 W (by omega) (by omega) (by omega))
  rw [show ((0 : Nat) : Int) = 0 from rfl] at EM
  generalize roF N ⟨N, []⟩ 0 (rowsT N T) = R at *
  obtain ⟨⟨rm, rg⟩, re⟩ := R
  dsimp only at *
  generalize blkN N = K at *
  clear h HRd
  go_enter Tryd.func40, Tryd.ntmps40
  go_wp2_with fail
  rw [← hW0]
  refine (EM.out W0).mono ?_
  rintro e w3 ⟨g1, rfl, hMk, c3⟩
  have OR1 := Lib.hid (OR.out g1 w3 hMk c3)
  have C3 := Lib.hid c3
  clear OR hMk c3
  go_wp2_with fail
  refine (OR1.out).mono ?_
  rintro e w5 ⟨rfl, hM5, b5, _⟩
  have B5 := Lib.hid (C3.out.trans b5)
  clear OR1 b5
  dsimp only at hM5 ⊢
  go_wp2_with fail
  refine (toldP_yes ⟨rm, rg⟩ re _ g1 _ _ hM5).mono ?_
  rintro e w9 ⟨A7, c7, rfl, o9, d9⟩
  dsimp only at o9 ⊢
  have b9 := B5.out.trans (d9.mono B5.out.size)
  have hz0 : w.heap.size + 1 < W0.heap.size := by rw [hW0]; simp
  rw [hW0] at b9 o9 hz0
  obtain ⟨B9, _, kr9⟩ := BX.out w9 b9
  have f0 := kr9.frozen 0
  have f1 := kr9.frozen 1
  have y0 := kr9.cell 0
  have y1 := kr9.cell 1
  simp only [List.getElem?_cons_zero, List.getElem?_cons_succ] at y0 y1
  have n9 : (Value.slice A7 (rg).length c7).ownBlock ≠ some (w.heap.size + 1) := fun e => by have := (o9.lt _ e).1; (try simp only [World.size_alloc] at this); omega
  clear b9
  go_wp2
  have K2 := (kr9.set 0 (.int .i64 rm)).set 1 (.slice A7 (rg).length c7)
  have o8 := own_away (own_away o9 (p := ⟨w.heap.size + 1, 0, none⟩) (.int .i64 rm) n9) (p := ⟨w.heap.size + 1, 1, none⟩) (.slice A7 (rg).length c7) n9
  have b8 := (B9.setCell (p := ⟨w.heap.size + 1, 0, none⟩) (Nat.le_succ _) (.int .i64 rm)).setCell (p := ⟨w.heap.size + 1, 1, none⟩) (Nat.le_succ _) (.slice A7 (rg).length c7)
  generalize (w9.setCell ⟨w.heap.size + 1, 0, none⟩ (.int .i64 rm)).setCell ⟨w.heap.size + 1, 1, none⟩ (.slice A7 (rg).length c7) = w8 at K2 b8 o8 ⊢
  have r0 := K2.cell 0
  have r1 := K2.cell 1
  simp only [List.set_cons_zero, List.set_cons_succ, List.getElem?_cons_zero, List.getElem?_cons_succ] at r0 r1
  exact bodyPost_ret (v := .tuple #[.agg #[.int .i64 rm, .slice A7 (rg).length c7], .int .i64 re]) (by simp [results, Tryd.results40, go_sem, r0, r1]) rfl ⟨A7, c7, rfl, own_lower o8 (by simp; omega), b8⟩
end Go.Proofs.YtnhjcokmajejcaaDoor
