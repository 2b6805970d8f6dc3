/- Circuits: EdgeValue, in the model and in the program. -/
import Derived.Test.YtnhjcokmajejcaaDoorCiE
namespace Go.Proofs.YtnhjcokmajejcaaDoor
open Go.RowKit

theorem rd_new1 (W : World) (a : Int) : Mem.rd (W.alloc (.cells #[.int .i64 a] 3)) (W.alloc (.cells #[.int .i64 a] 3)).heap.size [.slice (some ⟨W.heap.size, 0, none⟩) 1 1] [a] :=
  rd_ints.2 ⟨by unfold maxLen; omega, Rd.of_own (World.ownsRow_lit (base := 0) (e := 3) (size := 1) W #[.int .i64 a] 1 (Nat.zero_le _) (by unfold maxLen; omega) rfl)⟩
theorem rd_new2 (W : World) (a b : Int) : Mem.rd (W.alloc (.cells #[.int .i64 a, .int .i64 b] 3)) (W.alloc (.cells #[.int .i64 a, .int .i64 b] 3)).heap.size [.slice (some ⟨W.heap.size, 0, none⟩) 2 2] [a, b] :=
  rd_ints.2 ⟨by unfold maxLen; omega, Rd.of_own (World.ownsRow_lit (base := 0) (e := 3) (size := 1) W #[.int .i64 a, .int .i64 b] 2 (Nat.zero_le _) (by unfold maxLen; omega) rfl)⟩
theorem rd_new3 (W : World) (a b c : Int) : Mem.rd (W.alloc (.cells #[.int .i64 a, .int .i64 b, .int .i64 c] 3)) (W.alloc (.cells #[.int .i64 a, .int .i64 b, .int .i64 c] 3)).heap.size [.slice (some ⟨W.heap.size, 0, none⟩) 3 3] [a, b, c] :=
  rd_ints.2 ⟨by unfold maxLen; omega, Rd.of_own (World.ownsRow_lit (base := 0) (e := 3) (size := 1) W #[.int .i64 a, .int .i64 b, .int .i64 c] 3 (Nat.zero_le _) (by unfold maxLen; omega) rfl)⟩
theorem valsB_nil {s : Ci} {bits : List Int} (h : ¬ (ckB s = true ∧ (bits.length : Int) = s.ins ∧ arB bits = true)) : valsB s bits = [] := if_neg h
theorem edgeB_no {s : Ci} {bits : List Int} {e : Int} (h : ¬ (ckB s = true ∧ (bits.length : Int) = s.ins ∧ arB bits = true ∧ isE s e = true)) : edgeB s bits e = -1 := if_neg h

end Go.Proofs.YtnhjcokmajejcaaDoor
