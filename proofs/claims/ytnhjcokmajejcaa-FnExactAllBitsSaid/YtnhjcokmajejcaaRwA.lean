/- The word of the state with a number: of the program. -/
import Derived.Test.YtnhjcokmajejcaaBitR
import Derived.Test.YtnhjcokmajejcaaAtS
import Derived.Deep.CutRange
namespace Go.Proofs.Ytnhjcokmajejcaa
open Go.RowKit
set_option maxRecDepth 100000

set_option maxHeartbeats 4000000 in
theorem rowAt_any (s : Sy) (n : Int) (A1 : Option Addr) (n1 c1 : Nat) (A2 : Option Addr) (n2 c2 : Nat) (w : World) (h1 : Mem.rd w w.heap.size [.slice A1 n1 c1] s.vars) (ok : SysOk s) (h0 : 0 ≤ n) (h4 : n < 400) :
    Calls Try.prog 40 #[.agg #[.slice A1 n1 c1, .slice A2 n2 c2], .int .i64 n] w (GivesV w (rwV (rowTo s.vars (stL s.vars n) s.vars.length) (widTo s.vars s.vars.length))) := by
  have L1 := rd_len h1
  have h5 : 1 ≤ n1 ∧ n1 ≤ 5 := by have := ok.hi; have := ok.lo; omega
  have SL : (stL s.vars n).length = n1 := (stL_len s.vars n).trans L1
  have AC := Lib.hid (fun W (B : Below w.heap.size w W) => show Calls Try.prog 87 #[.agg #[.slice A1 n1 c1, .slice A2 n2 c2], .int .i64 n] W (GivesV W (.agg #[.int .i64 (ix (stL s.vars n) 0), .int .i64 (ix (stL s.vars n) 1), .int .i64 (ix (stL s.vars n) 2), .int .i64 (ix (stL s.vars n) 3), .int .i64 (ix (stL s.vars n) 4), .int .i64 n1])) from by
    have := at_any s n A1 n1 c1 A2 n2 c2 W (Mem.rd_on h1 B) ok h0 h4
    unfold ptV at this
    rw [SL] at this
    exact this)
  have RC := Lib.hid (fun W g T (B : Below w.heap.size w W) (kO : Blk W g T (ptC (stL s.vars n))) => row_any s (stL s.vars n) A1 n1 c1 A2 n2 c2 (some ⟨g, 0, none⟩) n1 5 W (Mem.rd_on h1 B) (rd_ints.2 ⟨by unfold maxLen; omega, by have := kO.pt (by rw [SL]; exact h5.2); rw [SL] at this; exact this⟩) ok (stL_has _ ok.vars))
  have BX := Lib.hid (fun W hW => rowW0_box (w := w) (a := .slice A1 n1 c1) (b := .slice A2 n2 c2) (W := W) hW)
  have B0 : Below w.heap.size w ((w.alloc (.cells #[.slice A1 n1 c1, .slice A2 n2 c2] 33)).alloc (.cells #[.int .u64 0, .int .i64 0] 78)) := (below_alloc w _).alloc (by simp) _
  have H5 := Lib.hid h5
  have HSL := Lib.hid SL
  have PC : ptC (stL s.vars n) = [.int .i64 (ix (stL s.vars n) 0), .int .i64 (ix (stL s.vars n) 1), .int .i64 (ix (stL s.vars n) 2), .int .i64 (ix (stL s.vars n) 3), .int .i64 (ix (stL s.vars n) 4), .int .i64 n1] := by unfold ptC; rw [SL]
  rw [PC] at RC
  have AC0 := Lib.hid (AC.out _ B0)
  unfold rwV at RC
  generalize rowTo s.vars (stL s.vars n) s.vars.length = R at *
  generalize widTo s.vars s.vars.length = M at *
  generalize hx0 : ix (stL s.vars n) 0 = X0 at *
  generalize hx1 : ix (stL s.vars n) 1 = X1 at *
  generalize hx2 : ix (stL s.vars n) 2 = X2 at *
  generalize hx3 : ix (stL s.vars n) 3 = X3 at *
  generalize hx4 : ix (stL s.vars n) 4 = X4 at *
  clear hx0 hx1 hx2 hx3 hx4 SL L1 ok h0 h4 h5 B0 AC h1 HSL PC
  go_enter Try.func40, Try.ntmps40
  go_wp2_with fail
  refine (AC0.out).mono ?_
  rintro e w4 ⟨rfl, b4⟩
  have b4' : Below (w.heap.size + 2) (rowW0 w (.slice A1 n1 c1) (.slice A2 n2 c2)) w4 := by
    have : Below (rowW0 w (.slice A1 n1 c1) (.slice A2 n2 c2)).heap.size (rowW0 w (.slice A1 n1 c1) (.slice A2 n2 c2)) w4 := b4
    rwa [rowW0_size] at this
  clear b4
  have bq := below_alloc w4 (.cells #[.int .i64 X0, .int .i64 X1, .int .i64 X2, .int .i64 X3, .int .i64 X4, .int .i64 n1] 134)
  have KP := Blk.new w4 #[.int .i64 X0, .int .i64 X1, .int .i64 X2, .int .i64 X3, .int .i64 X4, .int .i64 n1] 134
  have hw4 : w.heap.size + 2 ≤ w4.heap.size := by have := b4'.size; rw [rowW0_size] at this; exact this
  have bW := b4'.trans (bq.mono hw4)
  have y4 := (BX.out _ b4')
  obtain ⟨_, x0, x1, _, _⟩ := y4
  go_upto_region 2 with fail
  generalize hW4 : w4.alloc (.cells #[.int .i64 X0, .int .i64 X1, .int .i64 X2, .int .i64 X3, .int .i64 X4, .int .i64 n1] 134) = W4 at *
  clear hW4 x0 x1 b4'
  obtain ⟨B, x0, x1, kZ, lx⟩ := BX.out _ bW
  generalize hg4 : w4.heap.size = g4 at *
  clear hg4
  have HSLq := fun W => run_pt_slice ⟨g4, 0, none⟩ n1 H5.out.2 W
  have q5 := KP.cell 5
  simp only [List.getElem?_cons_zero, List.getElem?_cons_succ] at q5
  have Bd : Below w.heap.size w W4.drew := ⟨B.os, B.tape, B.output, B.size, B.block⟩
  have RK := Lib.hid (RC.out W4.drew g4 _ Bd (show Blk W4.drew g4 134 _ from KP))
  have KZ := Lib.hid kZ
  have HB := Lib.hid B
  have HLX := Lib.hid lx
  clear kZ B Bd KP bq bW RC BX hw4
  go_region_law (first
    | (go_simp; go_at_call 88; refine (RK.out).mono ?_; rintro e w5 ⟨rfl, b5⟩
       have b5' : Below W4.heap.size W4 w5 := ⟨b5.os, b5.tape, b5.output, b5.size, b5.block⟩
       have K5 := KZ.out.below b5' KZ.out.lt
       have c0 := K5.cell 0
       have c1' := K5.cell 1
       have f0 := K5.frozen 0
       have f1 := K5.frozen 1
       simp only [List.getElem?_cons_zero, List.getElem?_cons_succ] at c0 c1'
       have B5 := Lib.hid (HB.out.trans (b5'.mono HB.out.size))
       have HK5 := Lib.hid K5
       clear b5 b5' K5))
  all_goals
    go_wp2
    have K2 := (HK5.out.set 0 (.int .u64 R)).set 1 (.int .i64 M)
    have b8 := (B5.out.setCell (p := ⟨w.heap.size + 1, 0, none⟩) (Nat.le_succ _) (.int .u64 R)).setCell (p := ⟨w.heap.size + 1, 1, none⟩) (Nat.le_succ _) (.int .i64 M)
    generalize (w5.setCell ⟨w.heap.size + 1, 0, none⟩ (.int .u64 R)).setCell ⟨w.heap.size + 1, 1, none⟩ (.int .i64 M) = w8 at K2 b8 ⊢
    have r0 := K2.cell 0
    have r1 := K2.cell 1
    simp only [List.set_cons_zero, List.set_cons_succ, List.getElem?_cons_zero, List.getElem?_cons_succ] at r0 r1
    exact bodyPost_ret (v := .agg #[.int .u64 R, .int .i64 M]) (by simp [results, Try.results40, go_sem, r0, r1]) rfl ⟨rfl, b8⟩
end Go.Proofs.Ytnhjcokmajejcaa
