/- The ends of a term, in the program: operations of two terms. -/
import Derived.Test.YthlkbkomecnbaaaRgA
import Derived.Test.YthlkbkomecnbaaaRgK
import Derived.Test.YthlkbkomecnbaaaRgE
namespace Go.Proofs.Ythlkbkomecnbaaa
open Go.RowKit
set_option maxRecDepth 100000

section
variable (A2 A3 : Option Addr) (ad : Addr) (n c n2 c2 n3 c3 p q : Nat) (tn x1 x2 y1 y2 : Int) (w : World) (hg : ad.block < w.heap.size)
  (ha : w.cell? (ad.add (p * 2)) = some (.int .i64 x1)) (ha' : w.cell? ⟨(ad.add (p * 2)).block, (ad.add (p * 2)).off + 1, none⟩ = some (.int .i64 x2))
  (hb : w.cell? (ad.add (q * 2)) = some (.int .i64 y1)) (hb' : w.cell? ⟨(ad.add (q * 2)).block, (ad.add (q * 2)).off + 1, none⟩ = some (.int .i64 y2))
  (hp : p < n) (hq : q < n) (bx : -9999 ≤ x1 ∧ x1 ≤ 9999 ∧ -9999 ≤ x2 ∧ x2 ≤ 9999 ∧ x1 ≤ x2) (bY : -9999 ≤ y1 ∧ y1 ≤ 9999 ∧ -9999 ≤ y2 ∧ y2 ≤ 9999 ∧ y1 ≤ y2)
include hg ha ha' hb hb' hp hq bx bY
set_option maxHeartbeats 4000000 in
theorem endsOf_4 : Calls Try.prog 87 #[.agg #[.int .i64 4, .int .i64 tn, .int .i64 p, .int .i64 q], .slice (some ad) n c, .slice A2 n2 c2, .slice A3 n3 c3] w (GivesV w (En.v ⟨hld (mnL (four ⟨x1, x2⟩ ⟨y1, y2⟩) 3), hld (mxL (four ⟨x1, x2⟩ ⟨y1, y2⟩) 3)⟩)) := by
  have f2ha := al2 (by first | exact (add_block ad _).symm ▸ hg | exact hg) ha
  have f2ha_ := al2 (by first | exact (add_block ad _).symm ▸ hg | exact hg) ha'
  have f2hb := al2 (by first | exact (add_block ad _).symm ▸ hg | exact hg) hb
  have f2hb_ := al2 (by first | exact (add_block ad _).symm ▸ hg | exact hg) hb'
  have f3ha := al3 (by first | exact (add_block ad _).symm ▸ hg | exact hg) ha
  have f3ha_ := al3 (by first | exact (add_block ad _).symm ▸ hg | exact hg) ha'
  have f3hb := al3 (by first | exact (add_block ad _).symm ▸ hg | exact hg) hb
  have f3hb_ := al3 (by first | exact (add_block ad _).symm ▸ hg | exact hg) hb'
  have f4ha := al4 (by first | exact (add_block ad _).symm ▸ hg | exact hg) ha
  have f4ha_ := al4 (by first | exact (add_block ad _).symm ▸ hg | exact hg) ha'
  have f4hb := al4 (by first | exact (add_block ad _).symm ▸ hg | exact hg) hb
  have f4hb_ := al4 (by first | exact (add_block ad _).symm ▸ hg | exact hg) hb'
  clear ha ha' hb hb' hg
  obtain ⟨bx1, bx2, bx3, bx4, bx5⟩ := bx
  obtain ⟨by1, by2, by3, by4, by5⟩ := bY
  have hp' : (p : Int) < n := by omega
  have hq' : (q : Int) < n := by omega
  have PE := Lib.hid (fun W => productEnds_any ⟨x1, x2⟩ ⟨y1, y2⟩ W ⟨bx1, bx2, bx3, bx4⟩ ⟨by1, by2, by3, by4⟩)
  generalize hld (mnL (four ⟨x1, x2⟩ ⟨y1, y2⟩) 3) = z1 at *
  generalize hld (mxL (four ⟨x1, x2⟩ ⟨y1, y2⟩) 3) = z2 at *
  unfold En.v at PE
  dsimp only at PE
  unfold En.v
  dsimp only
  go_enter Try.func87, Try.ntmps87
  go_wp2
  go_region
  all_goals
    go_wp2_with fail
    refine (PE.out _).mono ?_
    rintro e w1 ⟨rfl, b1⟩
    obtain ⟨B1, kr⟩ := box4 w _ _ _ _ _ (((Below.refl _ _).drew).trans b1)
    have f0 := kr.frozen 0
    have f1 := kr.frozen 1
    have y0 := kr.cell 0
    have y1' := kr.cell 1
    simp only [List.getElem?_cons_zero, List.getElem?_cons_succ] at y0 y1'
    go_wp2
    have K2 := (kr.set 0 (.int .i64 z1)).set 1 (.int .i64 z2)
    have b8 := (B1.setCell (p := ⟨w.heap.size + 1, 0, none⟩) (Nat.le_succ _) (.int .i64 z1)).setCell (p := ⟨w.heap.size + 1, 1, none⟩) (Nat.le_succ _) (.int .i64 z2)
    generalize (w1.setCell ⟨w.heap.size + 1, 0, none⟩ (.int .i64 z1)).setCell ⟨w.heap.size + 1, 1, none⟩ (.int .i64 z2) = w8 at K2 b8 ⊢
    have r0 := K2.cell 0
    have r1 := K2.cell 1
    simp only [List.set_cons_zero, List.set_cons_succ, List.getElem?_cons_zero, List.getElem?_cons_succ] at r0 r1
    exact bodyPost_ret (v := .agg #[.int .i64 z1, .int .i64 z2]) (by simp [results, Try.results87, go_sem, r0, r1]) rfl ⟨rfl, b8⟩

set_option maxHeartbeats 4000000 in
theorem endsOf_6 : Calls Try.prog 87 #[.agg #[.int .i64 6, .int .i64 tn, .int .i64 p, .int .i64 q], .slice (some ad) n c, .slice A2 n2 c2, .slice A3 n3 c3] w (GivesV w (En.v ⟨tr (x1 == x2 && y1 == y2 && x1 == y1), tr (decide (x1 ≤ y2) && decide (y1 ≤ x2))⟩)) := by
  have f2ha := al2 (by first | exact (add_block ad _).symm ▸ hg | exact hg) ha
  have f2ha_ := al2 (by first | exact (add_block ad _).symm ▸ hg | exact hg) ha'
  have f2hb := al2 (by first | exact (add_block ad _).symm ▸ hg | exact hg) hb
  have f2hb_ := al2 (by first | exact (add_block ad _).symm ▸ hg | exact hg) hb'
  have f3ha := al3 (by first | exact (add_block ad _).symm ▸ hg | exact hg) ha
  have f3ha_ := al3 (by first | exact (add_block ad _).symm ▸ hg | exact hg) ha'
  have f3hb := al3 (by first | exact (add_block ad _).symm ▸ hg | exact hg) hb
  have f3hb_ := al3 (by first | exact (add_block ad _).symm ▸ hg | exact hg) hb'
  have f4ha := al4 (by first | exact (add_block ad _).symm ▸ hg | exact hg) ha
  have f4ha_ := al4 (by first | exact (add_block ad _).symm ▸ hg | exact hg) ha'
  have f4hb := al4 (by first | exact (add_block ad _).symm ▸ hg | exact hg) hb
  have f4hb_ := al4 (by first | exact (add_block ad _).symm ▸ hg | exact hg) hb'
  clear ha ha' hb hb' hg
  obtain ⟨bx1, bx2, bx3, bx4, bx5⟩ := bx
  obtain ⟨by1, by2, by3, by4, by5⟩ := bY
  have hp' : (p : Int) < n := by omega
  have hq' : (q : Int) < n := by omega
  have PE := Lib.hid (fun W => equalEnds_any ⟨x1, x2⟩ ⟨y1, y2⟩ W bx5 by5)
  unfold En.v at PE
  dsimp only at PE
  generalize tr (x1 == x2 && y1 == y2 && x1 == y1) = z1 at *
  generalize tr (decide (x1 ≤ y2) && decide (y1 ≤ x2)) = z2 at *
  unfold En.v
  dsimp only
  go_enter Try.func87, Try.ntmps87
  go_wp2
  go_region
  all_goals
    go_wp2_with fail
    refine (PE.out _).mono ?_
    rintro e w1 ⟨rfl, b1⟩
    obtain ⟨B1, kr⟩ := box4 w _ _ _ _ _ (((Below.refl _ _).drew).trans b1)
    have f0 := kr.frozen 0
    have f1 := kr.frozen 1
    have y0 := kr.cell 0
    have y1' := kr.cell 1
    simp only [List.getElem?_cons_zero, List.getElem?_cons_succ] at y0 y1'
    go_wp2
    have K2 := (kr.set 0 (.int .i64 z1)).set 1 (.int .i64 z2)
    have b8 := (B1.setCell (p := ⟨w.heap.size + 1, 0, none⟩) (Nat.le_succ _) (.int .i64 z1)).setCell (p := ⟨w.heap.size + 1, 1, none⟩) (Nat.le_succ _) (.int .i64 z2)
    generalize (w1.setCell ⟨w.heap.size + 1, 0, none⟩ (.int .i64 z1)).setCell ⟨w.heap.size + 1, 1, none⟩ (.int .i64 z2) = w8 at K2 b8 ⊢
    have r0 := K2.cell 0
    have r1 := K2.cell 1
    simp only [List.set_cons_zero, List.set_cons_succ, List.getElem?_cons_zero, List.getElem?_cons_succ] at r0 r1
    exact bodyPost_ret (v := .agg #[.int .i64 z1, .int .i64 z2]) (by simp [results, Try.results87, go_sem, r0, r1]) rfl ⟨rfl, b8⟩
end
end Go.Proofs.Ythlkbkomecnbaaa
