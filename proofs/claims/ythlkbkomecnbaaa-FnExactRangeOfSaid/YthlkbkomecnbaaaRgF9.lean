/- The ends of a term, in the program: operations of two terms. -/
import Derived.Test.YthlkbkomecnbaaaRgA
namespace Go.Proofs.Ythlkbkomecnbaaa
open Go.RowKit
set_option maxRecDepth 100000

section
variable (A2 A3 : Option Addr) (ad : Addr) (n c n2 c2 n3 c3 p q : Nat) (tn x1 x2 y1 y2 : Int) (w : World) (hg : ad.block < w.heap.size)
  (ha : w.cell? (ad.add (p * 2)) = some (.int .i64 x1)) (ha' : w.cell? ⟨(ad.add (p * 2)).block, (ad.add (p * 2)).off + 1, none⟩ = some (.int .i64 x2))
  (hb : w.cell? (ad.add (q * 2)) = some (.int .i64 y1)) (hb' : w.cell? ⟨(ad.add (q * 2)).block, (ad.add (q * 2)).off + 1, none⟩ = some (.int .i64 y2))
  (hp : p < n) (hq : q < n) (bx : -9999 ≤ x1 ∧ x1 ≤ 9999 ∧ -9999 ≤ x2 ∧ x2 ≤ 9999 ∧ x1 ≤ x2) (bY : -9999 ≤ y1 ∧ y1 ≤ 9999 ∧ -9999 ≤ y2 ∧ y2 ≤ 9999 ∧ y1 ≤ y2)
include hg ha ha' hb hb' hp hq bx bY
set_option maxHeartbeats 4000000 in
theorem endsOf_9 (tx : x1 = 0 ∨ x1 = 1) (tx' : x2 = 0 ∨ x2 = 1) (ty : y1 = 0 ∨ y1 = 1) (ty' : y2 = 0 ∨ y2 = 1) : Calls Try.prog 87 #[.agg #[.int .i64 9, .int .i64 tn, .int .i64 p, .int .i64 q], .slice (some ad) n c, .slice A2 n2 c2, .slice A3 n3 c3] w (GivesV w (En.v ⟨doOp 9 x1 y1, doOp 9 x2 y2⟩)) := by
  have f2ha := al2 (by first | exact (add_block ad _).symm ▸ hg | exact hg) ha
  have f2ha_ := al2 (by first | exact (add_block ad _).symm ▸ hg | exact hg) ha'
  have f2hb := al2 (by first | exact (add_block ad _).symm ▸ hg | exact hg) hb
  have f2hb_ := al2 (by first | exact (add_block ad _).symm ▸ hg | exact hg) hb'
  have f3ha := al3 (by first | exact (add_block ad _).symm ▸ hg | exact hg) ha
  have f3ha_ := al3 (by first | exact (add_block ad _).symm ▸ hg | exact hg) ha'
  have f3hb := al3 (by first | exact (add_block ad _).symm ▸ hg | exact hg) hb
  have f3hb_ := al3 (by first | exact (add_block ad _).symm ▸ hg | exact hg) hb'
  have f4ha := al4 (by first | exact (add_block ad _).symm ▸ hg | exact hg) ha
  have f4ha_ := al4 (by first | exact (add_block ad _).symm ▸ hg | exact hg) ha'
  have f4hb := al4 (by first | exact (add_block ad _).symm ▸ hg | exact hg) hb
  have f4hb_ := al4 (by first | exact (add_block ad _).symm ▸ hg | exact hg) hb'
  clear ha ha' hb hb' hg
  obtain ⟨bx1, bx2, bx3, bx4, bx5⟩ := bx
  obtain ⟨by1, by2, by3, by4, by5⟩ := bY
  have hp' : (p : Int) < n := by omega
  have hq' : (q : Int) < n := by omega
  have E1 : doOp 9 x1 y1 = bits BinOp.or IntKind.i64 x1 y1 := by rcases tx with rfl | rfl <;> rcases ty with rfl | rfl <;> decide
  have E2 : doOp 9 x2 y2 = bits BinOp.or IntKind.i64 x2 y2 := by rcases tx' with rfl | rfl <;> rcases ty' with rfl | rfl <;> decide
  rw [E1, E2]
  clear E1 E2 tx tx' ty ty'
  unfold En.v
  dsimp only
  go_enter Try.func87, Try.ntmps87
  go_wp2
  go_region
  all_goals
    go_wp2
    refine bodyPost_ret (v := .agg #[.int .i64 (bits BinOp.or IntKind.i64 x1 y1), .int .i64 (bits BinOp.or IntKind.i64 x2 y2)]) (by simp [results, Try.results87, go_sem]) rfl ⟨rfl, ?_⟩
    first | exact bel4 _ _ _ _ _ | exact (bel4 _ _ _ _ _).drew | exact (bel4 _ _ _ _ _).drew.drew | exact below_drewN (bel4 _ _ _ _ _) _
end
end Go.Proofs.Ythlkbkomecnbaaa
