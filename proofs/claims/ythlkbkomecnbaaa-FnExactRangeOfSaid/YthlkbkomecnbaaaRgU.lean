/- Between which values an operation lies, in the model: all operations. -/
import Derived.Test.YthlkbkomecnbaaaRgT2
import Derived.Test.YthlkbkomecnbaaaRgT3
import Derived.Test.YthlkbkomecnbaaaRgT4
import Derived.Test.YthlkbkomecnbaaaRgT5
import Derived.Test.YthlkbkomecnbaaaRgT600
import Derived.Test.YthlkbkomecnbaaaRgT601
import Derived.Test.YthlkbkomecnbaaaRgT610
import Derived.Test.YthlkbkomecnbaaaRgT611
import Derived.Test.YthlkbkomecnbaaaRgT620
import Derived.Test.YthlkbkomecnbaaaRgT621
import Derived.Test.YthlkbkomecnbaaaRgT7
import Derived.Test.YthlkbkomecnbaaaRgT8
import Derived.Test.YthlkbkomecnbaaaRgT9
namespace Go.Proofs.Ythlkbkomecnbaaa
open Go.RowKit

theorem between_any (op : Int) (o1 : 2 ≤ op) (o2 : op ≤ 9) (A A' : Option Addr) (n c n' c' : Nat) (a b : En) (w : World) (h : Mem.rd w w.heap.size [.slice A n c] (twoOf a)) (h' : Mem.rd w w.heap.size [.slice A' n' c'] (twoOf b))
    (fa : -9999 ≤ a.lo ∧ a.lo ≤ 9999 ∧ -9999 ≤ a.hi ∧ a.hi ≤ 9999) (fb : -9999 ≤ b.lo ∧ b.lo ≤ 9999 ∧ -9999 ≤ b.hi ∧ b.hi ≤ 9999) :
    Calls Try.prog 83 #[.int .i64 op, .slice A n c, .slice A' n' c'] w (GivesInts w (twoOf (doEn op a b))) := by
  obtain rfl : 2 = n := rd_len h
  obtain rfl : 2 = n' := rd_len h'
  obtain ⟨_, r⟩ := rd_ints.1 h
  obtain ⟨_, r'⟩ := rd_ints.1 h'
  obtain ⟨ad, rfl, la, a0⟩ := r.int (k := 0) (by decide)
  obtain ⟨ad1, e1, _, a1⟩ := r.int (k := 1) (by decide)
  injection e1 with e1; subst e1
  obtain ⟨ad', rfl, la', b0⟩ := r'.int (k := 0) (by decide)
  obtain ⟨ad1', e1', _, b1⟩ := r'.int (k := 1) (by decide)
  injection e1' with e1'; subst e1'
  have a0 : w.cell? (ad.add 0) = some (.int .i64 a.lo) := a0
  have a1 : w.cell? (ad.add 1) = some (.int .i64 a.hi) := a1
  have b0 : w.cell? (ad'.add 0) = some (.int .i64 b.lo) := b0
  have b1 : w.cell? (ad'.add 1) = some (.int .i64 b.hi) := b1
  obtain ⟨x1, x2⟩ := a
  obtain ⟨y1, y2⟩ := b
  dsimp only at a0 a1 b0 b1 fa fb
  obtain ⟨f1, f2, f3, f4⟩ := fa
  obtain ⟨g1, g2, g3, g4⟩ := fb
  obtain rfl | rfl | rfl | rfl | rfl | rfl | rfl | rfl : op = 2 ∨ op = 3 ∨ op = 4 ∨ op = 5 ∨ op = 6 ∨ op = 7 ∨ op = 8 ∨ op = 9 := by omega
  · exact between_2 ad ad' c c' x1 x2 y1 y2 w la la' a0 a1 b0 b1 f1 f2 f3 f4 g1 g2 g3 g4
  · exact between_3 ad ad' c c' x1 x2 y1 y2 w la la' a0 a1 b0 b1 f1 f2 f3 f4 g1 g2 g3 g4
  · exact between_4 ad ad' c c' x1 x2 y1 y2 w la la' a0 a1 b0 b1 f1 f2 f3 f4 g1 g2 g3 g4
  · exact between_5 ad ad' c c' x1 x2 y1 y2 w la la' a0 a1 b0 b1
  · by_cases e : x1 = x2
    · subst e
      by_cases e2 : y1 = y2
      · subst e2
        by_cases f : x1 ≤ y1
        · exact between_6_20 ad ad' c c' x1 y1 w la la' a0 a1 b0 b1 f
        · exact between_6_21 ad ad' c c' x1 y1 w la la' a0 a1 b0 b1 f
      · by_cases f : x1 ≤ y2
        · exact between_6_10 ad ad' c c' x1 y1 y2 w la la' a0 a1 b0 b1 e2 f
        · exact between_6_11 ad ad' c c' x1 y1 y2 w la la' a0 a1 b0 b1 e2 f
    · by_cases f : x1 ≤ y2
      · exact between_6_00 ad ad' c c' x1 x2 y1 y2 w la la' a0 a1 b0 b1 e f
      · exact between_6_01 ad ad' c c' x1 x2 y1 y2 w la la' a0 a1 b0 b1 e f
  · exact between_7 ad ad' c c' x1 x2 y1 y2 w la la' a0 a1 b0 b1 f1 f2 f3 f4
  · exact between_8 ad ad' c c' x1 x2 y1 y2 w la la' a0 a1 b0 b1 f1 f2 f3 f4 g1 g2 g3 g4
  · exact between_9 ad ad' c c' x1 x2 y1 y2 w la la' a0 a1 b0 b1 f1 f2 f3 f4 g1 g2 g3 g4
end Go.Proofs.Ythlkbkomecnbaaa
