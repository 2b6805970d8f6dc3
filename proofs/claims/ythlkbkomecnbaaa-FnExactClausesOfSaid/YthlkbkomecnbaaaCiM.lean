/- Circuits: NodeValues, in the program. -/
import Derived.Test.YthlkbkomecnbaaaCiN
namespace Go.Proofs.Ythlkbkomecnbaaa
open Go.RowKit

def colsOf (bits : List Int) : List (Nat → Bool) := bits.map fun x => fun _ => decide (x = 1)
theorem colsOf_len (bits : List Int) : (colsOf bits).length = bits.length := by simp [colsOf]
theorem rowOf_cols (bits : List Int) (j : Nat) : rowOfC (colsOf bits) j = false :: boL bits := by unfold rowOfC colsOf boL; rw [List.map_map]; rfl
theorem cols_succ {bits : List Int} {k d : Nat} (hk : k < bits.length) (hx : ix bits k = d) (hd : d < 2) : (colsOf (bits.take (k + 1))).map fw = (colsOf (bits.take k)).map fw ++ [fil d] := by
  rw [List.take_succ_eq_append_getElem hk]
  unfold colsOf
  rw [List.map_append, List.map_append]
  congr 1
  rw [ix_lt hk] at hx
  simp only [List.map_cons, List.map_nil, hx]
  unfold fil
  obtain rfl | rfl : d = 0 ∨ d = 1 := by omega
  · simp [fw_none]
  · simp [fw_all]

end Go.Proofs.Ythlkbkomecnbaaa
