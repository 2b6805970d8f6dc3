/- DiagramOf, in the program. -/
import Derived.Test.YtnhjcokmajejcaaDoorTrI
import Derived.Test.YtnhjcokmajejcaaDoorDoT
import Derived.Test.YtnhjcokmajejcaaDoorCiE
import Derived.Deep.RegionHeld3
import Derived.Deep.CutRange
namespace Go.Proofs.YtnhjcokmajejcaaDoor
open Go.RowKit
set_option maxRecDepth 100000

theorem rd_newO (W : World) (x : Int) : Mem.rd (W.alloc (.cells #[.int .i64 x] 3)) (W.alloc (.cells #[.int .i64 x] 3)).heap.size [.slice (some ⟨W.heap.size, 0, none⟩) 1 1] [x] := by
  refine rd_ints.2 ⟨by unfold maxLen; omega, rfl, fun _ => ⟨_, rfl, by simp, fun j u hu => ?_⟩⟩
  cases j with
  | zero => rw [add_zero', World.cell?_alloc_at _ _ _ _ rfl]; simpa [ints] using hu
  | succ j => simp [ints] at hu
set_option maxHeartbeats 4000000 in
theorem dgOf_impl (s : Ci) (x : Int) (A : Option Addr) (n c : Nat) (w : World) (h1 : Mem.rd w w.heap.size [.slice A n c] s.gates) (hT : DoorAt w) :
    Calls Tryd.prog 13 #[.agg #[.int .i64 s.ins, .slice A n c], .int .i64 x] w (GivesDgN w (dgOfB s x).1 (dgOfB s x).2) := by
  obtain rfl : s.gates.length = n := rd_len h1
  have BX := Lib.hid (two_boxes w #[.int .i64 s.ins, .slice A s.gates.length c] #[.int .i64 0, .slice none 0 0] 29 35)
  have B0 : Below w.heap.size w ((w.alloc (.cells #[.int .i64 s.ins, .slice A s.gates.length c] 29)).alloc (.cells #[.int .i64 0, .slice none 0 0] 35)) := (below_alloc w _).alloc (by simp) _
  have HE := Lib.hid (fun W (B : Below w.heap.size w W) => hasEdges_any s A s.gates.length c (some ⟨W.heap.size, 0, none⟩) 1 1 [x] (W.alloc (.cells #[.int .i64 x] 3)) (Mem.rd_on_alloc (Mem.rd_on h1 B) _) (rd_newO W x))
  have eE : (ckB s && areE s [x]) = (ckB s && isE s x) := by simp [areE]
  rw [eE] at HE
  cases k1 : (ckB s && isE s x)
  · rw [k1] at HE
    rw [show dgOfB s x = (⟨0, []⟩, -1) from if_neg (by rw [k1]; simp)]
    obtain ⟨m, gs⟩ := s
    dsimp only at *
    clear k1 h1 eE hT
    have HE0 := HE.out _ B0
    simp only [World.size_alloc] at HE0
    go_enter Tryd.func13, Tryd.ntmps13
    go_wp2_with fail
    refine HE0.mono ?_
    rintro e w1 ⟨rfl, b1'⟩
    have b1 := below_call b1'
    obtain ⟨B1, kb1, kr1⟩ := BX.out _ b1
    have x0 := kb1.cell 0
    have x1 := kb1.cell 1
    have f0 := kr1.frozen 0
    have f1 := kr1.frozen 1
    have y0 := kr1.cell 0
    have y1 := kr1.cell 1
    simp only [List.getElem?_cons_zero, List.getElem?_cons_succ] at x0 x1 y0 y1
    go_wp2
    have K2 := (kr1.set 0 (.int .i64 0)).set 1 (.slice none 0 0)
    have b8 := (B1.setCell (p := ⟨w.heap.size + 1, 0, none⟩) (Nat.le_succ _) (.int .i64 0)).setCell (p := ⟨w.heap.size + 1, 1, none⟩) (Nat.le_succ _) (.slice none 0 0)
    generalize (w1.setCell ⟨w.heap.size + 1, 0, none⟩ (.int .i64 0)).setCell ⟨w.heap.size + 1, 1, none⟩ (.slice none 0 0) = w8 at K2 b8 ⊢
    have r0 := K2.cell 0
    have r1 := K2.cell 1
    simp only [List.set_cons_zero, List.set_cons_succ, List.getElem?_cons_zero, List.getElem?_cons_succ] at r0 r1
    exact bodyPost_ret (v := .tuple #[.agg #[.int .i64 0, .slice none 0 0], .int .i64 (-1)]) (by simp [results, Tryd.results13, go_sem, r0, r1]) rfl (gives_dg_nil b8)
  · rw [k1] at HE
    rw [show dgOfB s x = roF s.ins.toNat ⟨s.ins, []⟩ 0 (rowsT s.ins.toNat (Tc s x)) from if_pos k1]
    rw [Bool.and_eq_true] at k1
    obtain ⟨k1, q1⟩ := k1
    have ok := ckB_iff.1 k1
    have lo := ok.lo
    have hi := ok.hi
    obtain ⟨N, hN⟩ : ∃ N : Nat, s.ins = N := ⟨s.ins.toNat, by omega⟩
    have eN : s.ins.toNat = N := by omega
    have N12 : N ≤ 12 := by omega
    obtain ⟨z0, z1⟩ := isE_iff.1 q1
    have TR := Lib.hid (fun W (B : Below w.heap.size w W) => truths_any s ok x z0 z1 A c N hN W (Mem.rd_on h1 B) (hT.on B))
    have LT := Lib.hid (trL_len (Tc s x) N)
    have DT := Lib.hid (fun (g4 c4 : Nat) (W : World) (h : Rd W W.heap.size 1 (some ⟨g4, 0, none⟩) (blkN N) (us (trL (Tc s x) N))) => dgTruths_any (Tc s x) N g4 c4 N12 W h)
    have HW := Lib.hid (roF_top N N12 (Tc s x)).1.few
    have HE0 := HE.out _ B0
    simp only [World.size_alloc] at HE0
    rw [eN]
    rw [hN] at BX HE0 TR ⊢
    clear h1 eE k1 q1 ok lo hi hN eN z0 z1 hT HE B0
    generalize roF N ⟨N, []⟩ 0 (rowsT N (Tc s x)) = R at *
    obtain ⟨⟨rm, rg⟩, re⟩ := R
    dsimp only at *
    go_enter Tryd.func13, Tryd.ntmps13
    go_wp2_with fail
    refine HE0.mono ?_
    rintro e w1 ⟨rfl, b1'⟩
    have b1 := below_call b1'
    obtain ⟨B1, kb1, kr1⟩ := BX.out _ b1
    have x0 := kb1.cell 0
    have x1 := kb1.cell 1
    simp only [List.getElem?_cons_zero, List.getElem?_cons_succ] at x0 x1
    have l0 := kb1.lt
    have l1 := kr1.lt
    have KR1 := Lib.hid kr1
    have HB1 := Lib.hid B1
    have TR1 := Lib.hid (TR.out w1.drew ⟨B1.os, B1.tape, B1.output, B1.size, B1.block⟩)
    clear b1' b1 B1 kb1 kr1 HE0 TR
    go_upto_region 3 with fail
    go_region_held3 (fun w' => w'.cell? ⟨w.heap.size, 0, none⟩ = some (.int .i64 N) ∧ w'.cell? ⟨w.heap.size, 1, none⟩ = some (.slice A s.gates.length c)) (go_keep)
      (first
        | (go_at_call 36; refine (TR1.out).mono ?_; rintro e w4 ⟨g4, c4, rfl, o4, b4'⟩
           have b4 : Below w1.heap.size w1 w4 := ⟨b4'.os, b4'.tape, b4'.output, b4'.size, b4'.block⟩
           have x0 := cell_below b4 (p := ⟨w.heap.size, 0, none⟩) l0 x0
           have x1 := cell_below b4 (p := ⟨w.heap.size, 1, none⟩) l0 x1
           have DT4 := Lib.hid (DT.out g4 c4 w4 (by have := Rd.of_own o4; rw [LT.out] at this; exact this))
           have eL := LT.out
           clear o4 b4')
        | (go_at_call 40; refine (DT4.out).mono ?_; rintro e w9 ⟨A7, c7, rfl, o9, d9⟩
           have x0 := cell_below d9 (p := ⟨w.heap.size, 0, none⟩) (Nat.lt_of_lt_of_le l0 b4.size) x0
           have x1 := cell_below d9 (p := ⟨w.heap.size, 1, none⟩) (Nat.lt_of_lt_of_le l0 b4.size) x1
           have b9 := b4.trans (d9.mono b4.size)
           have B9 := Lib.hid (HB1.out.trans (b9.mono HB1.out.size))
           have kr9 := KR1.out.below b9 l1
           have f0 := kr9.frozen 0
           have f1 := kr9.frozen 1
           have y0 := kr9.cell 0
           have y1 := kr9.cell 1
           simp only [List.getElem?_cons_zero, List.getElem?_cons_succ] at y0 y1
           have O9 := Lib.hid o9
           have KR9 := Lib.hid kr9
           have l9 := Nat.lt_of_lt_of_le l1 b4.size
           clear o9 kr9))
    all_goals
      have n9 : (Value.slice A7 (rg).length c7).ownBlock ≠ some (w.heap.size + 1) := fun e => by have := (O9.out.lt _ e).1; (try simp only [World.size_alloc] at this); omega
      go_wp2
      have K2 := (KR9.out.set 0 (.int .i64 rm)).set 1 (.slice A7 (rg).length c7)
      have o8 := own_away (own_away O9.out (p := ⟨w.heap.size + 1, 0, none⟩) (.int .i64 rm) n9) (p := ⟨w.heap.size + 1, 1, none⟩) (.slice A7 (rg).length c7) n9
      have b8 := (B9.out.setCell (p := ⟨w.heap.size + 1, 0, none⟩) (Nat.le_succ _) (.int .i64 rm)).setCell (p := ⟨w.heap.size + 1, 1, none⟩) (Nat.le_succ _) (.slice A7 (rg).length c7)
      generalize (w9.setCell ⟨w.heap.size + 1, 0, none⟩ (.int .i64 rm)).setCell ⟨w.heap.size + 1, 1, none⟩ (.slice A7 (rg).length c7) = w8 at K2 b8 o8 ⊢
      have r0 := K2.cell 0
      have r1 := K2.cell 1
      simp only [List.set_cons_zero, List.set_cons_succ, List.getElem?_cons_zero, List.getElem?_cons_succ] at r0 r1
      obtain ⟨fp, q1, q2, q3⟩ := own_flat (α := Fk) o8 rfl (by unfold maxLen; have := HW.out; omega)
      exact bodyPost_ret (v := .tuple #[.agg #[.int .i64 rm, .slice A7 (rg).length c7], .int .i64 re]) (by simp [results, Tryd.results13, go_sem, r0, r1]) rfl (by exact ⟨A7, _, c7, fp, rfl, q1, q2, fun y hy => by have := q3 y hy; omega, b8⟩)
theorem dgOf_implR (s : Ci) (x : Int) (A : Option Addr) (n c : Nat) (w : World) (h1 : Mem.rd w w.heap.size [.slice A n c] s.gates) (hT : DoorAt w) :
    Calls Tryd.prog 13 #[.agg #[.int .i64 s.ins, .slice A n c], .int .i64 x] w (GivesDgN w (dgOf1 s x) (dgOf2 s x)) := dgOf_impl s x A n c w h1 hT
end Go.Proofs.YtnhjcokmajejcaaDoor
