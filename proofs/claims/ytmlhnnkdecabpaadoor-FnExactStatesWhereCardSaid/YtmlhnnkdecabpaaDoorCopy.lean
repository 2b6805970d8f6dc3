/- A copy of numbers, of the model. -/
import Derived.Test.YtmlhnnkdecabpaaDoorOwnW
import Derived.Test.YtmlhnnkdecabpaaDoorIntApp
namespace Go.Proofs.YtmlhnnkdecabpaaDoor
open Go.RowKit

set_option maxHeartbeats 1000000 in
theorem l3CopyI_any (A : Option Addr) (n c : Nat) (l : List Int) (w : World) (h : Mem.rd w w.heap.size [.slice A n c] l) (hn : n ≤ 1048576) :
    Calls Tryd.prog 75 #[.slice A n c] w (GivesInts w l) := by
  have L := Lib.hid (rd_len h)
  have h' := (rd_ints.1 h).2
  have hown0 := World.ownsRow_lit (base := w.heap.size) (e := 3) (size := 1) w #[] 0 (Nat.le_refl _) (by unfold maxLen; omega) rfl
  go_enter Tryd.func75, Tryd.ntmps75
  go_wp2
  go_loopg [3, 4] n (fun m v i wr => ∃ k : Nat, k + m = n ∧ i = .int .i64 k ∧ wr.ownsRow w.heap.size 3 1 v k (ints (l.take k)) ∧ Below w.heap.size w wr)
  case atStart => exact ⟨0, by omega, rfl, hown0, below_alloc _ _⟩
  case round =>
    clear hown0
    obtain ⟨k, hk, rfl, ho, hb⟩ := hrel
    by_cases hlt : k < n
    · obtain ⟨ad3, rfl, hbl3, d3⟩ := (h'.below hb).int hlt
      have HO := Lib.hid ho
      go_wp2_with (first
        | (at_builtin; refine app_int_at rfl _ _ rfl w.heap.size _ k _ _ _ rfl (HO.out.alloc _) rfl (World.cell?_alloc_at _ _ _ _ (by simp)) (by omega) (by have := hb.size; simp; omega) ?_; intro v' w4 ho4 hb4))
      go_roundg (n - (k + 1))
      case measure => omega
      case rel => exact ⟨k + 1, by omega, by go_num, by rw [take_el (by rw [L.out]; omega)]; exact ho4, (hb.alloc hb.size _).trans hb4⟩
    · obtain rfl : k = n := by omega
      go_wp2
      go_ret
      rw [List.take_of_length_le (by rw [L.out]; omega)] at ho
      have hl := L.out
      have hk : k = l.length := hl.symm
      rw [hk] at ho
      exact ⟨_, rfl, ho, hb⟩

theorem l3Copy_any (A : Option Addr) (n c : Nat) (l : List Int) (w : World) (h : Mem.rd w w.heap.size [.slice A n c] l) (hn : n ≤ 1048576) :
    Calls Tryd.prog 75 #[.slice A n c] w (GivesL w l) :=
  (l3CopyI_any A n c l w h hn).mono fun _ _ q => givesL_of q (by rw [rd_len h]; unfold maxLen; omega)
end Go.Proofs.YtmlhnnkdecabpaaDoor
