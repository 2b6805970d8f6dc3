/- toIntS: a copy of a list of int. -/
import Derived.Test.YtmlhnnkdecabpaaDoorLaw3
namespace Go.Proofs.YtmlhnnkdecabpaaDoor
open Go.RowKit

/-- The cells of a copy, k numbers of which are made. -/
def copiedI (l : List Int) (n k : Nat) : List Value := ints (l.take k) ++ List.replicate (n - k) (.int .i64 0)
theorem copiedI_room {l : List Int} {n k : Nat} (h : k < n) : copiedI l n k = ints (l.take k) ++ (.int .i64 0 :: List.replicate (n - (k + 1)) (.int .i64 0)) := by
  unfold copiedI
  rw [show n - k = 1 + (n - (k + 1)) by omega, ← List.replicate_append_replicate]; rfl
theorem lenI_take {l : List Int} {n k : Nat} (hl : l.length = n) (h : k < n) : (ints (l.take k)).length = k := by rw [len_ints, List.length_take]; omega
theorem copiedI_at {l : List Int} {n k : Nat} (hl : l.length = n) (h : k < n) : (copiedI l n k)[k]? = some (.int .i64 0) := by
  rw [copiedI_room h, List.getElem?_append_right (by rw [lenI_take hl h]; omega), lenI_take hl h, Nat.sub_self]; rfl
theorem copiedI_succ {l : List Int} {n k : Nat} (hl : l.length = n) (h : k < n) : (copiedI l n k).set k (.int .i64 (ix l k)) = copiedI l n (k + 1) := by
  have e := lenI_take hl h
  rw [copiedI_room h, List.set_append_right _ _ (by omega), e, Nat.sub_self]
  show _ = ints (l.take (k + 1)) ++ List.replicate (n - (k + 1)) (.int .i64 0)
  rw [List.take_succ_eq_append_getElem (show k < l.length by omega), ix_lt (by omega)]
  simp only [ints, List.map_append, List.map_cons, List.map_nil, List.append_assoc, List.cons_append, List.nil_append, List.set_cons_zero]
theorem copiedI_all {l : List Int} {n : Nat} (hl : l.length = n) : copiedI l n n = ints l := by unfold copiedI; rw [Nat.sub_self, List.take_of_length_le (by omega)]; simp
theorem copiedI_none (l : List Int) (n : Nat) : (madeCells (Value.int .i64 0).cells (n * 1)).toList = copiedI l n 0 := by
  rw [Nat.mul_one]
  exact (toList_madeCells_one _ _).trans (by simp [copiedI, ints])

set_option maxHeartbeats 1000000 in
theorem toIntS_any (A : Option Addr) (n c : Nat) (l : List Int) (w : World) (h : Rd w w.heap.size 1 A n (ints l)) (hn : n ≤ 1048576) :
    Calls Tryd.prog 23 #[.slice A n c] w (GivesInts w l) := by
  go_enter Tryd.func23, Tryd.ntmps23
  go_wp2_with (first | (at_make; refine wpList_make_full _ rfl _ _ 29 rfl w.heap.size 3 intRow _ 1 Tryd.underlying29 int_row.1 int_row.2.1 int_row.2.2.1 _ _ _ _ n rfl rfl rfl rfl (by rw [int_row.2.2.2]; omega) (by unfold maxLen; omega) (Nat.le_refl _) ?_; intro w1 hown hg))
  have hbw := (Below.refl w.heap.size w).grown hg (Nat.le_refl _) (by simp)
  have hblk := (Blk.of_own hown).1
  rw [copiedI_none l n] at hblk
  clear hg hown
  go_loopg [4] n (fun m i wr => ∃ k : Nat, k + m = n ∧ i = .int .i64 k ∧ Blk wr w.heap.size 3 (copiedI l n k) ∧ Below w.heap.size w wr)
  case atStart => exact ⟨0, by omega, rfl, hblk, hbw⟩
  case round =>
    clear hblk hbw
    obtain ⟨k, hk, rfl, hblk, hb⟩ := hrel
    by_cases hlt : k < n
    · obtain ⟨ad, rfl, _, h0⟩ := (h.below hb).int hlt
      have hl := Lib.hid h.len
      have f0 := hblk.frozen k
      have c0 := (hblk.cell k).trans (copiedI_at hl.out hlt)
      go_wp2
      go_roundg (n - (k + 1))
      case measure => omega
      case rel =>
        refine ⟨k + 1, by omega, by go_num, ?_, hb.setCell (Nat.le_refl _) _⟩
        rw [← copiedI_succ hl.out hlt]
        exact hblk.set _ _
    · obtain rfl : k = n := by omega
      go_wp2
      go_ret
      refine ⟨_, rfl, ?_, hb⟩
      rw [copiedI_all h.len] at hblk
      rw [h.len]
      exact hblk.own (Nat.le_refl _) (by unfold maxLen; omega) (by rw [len_ints, h.len]; omega)
end Go.Proofs.YtmlhnnkdecabpaaDoor
