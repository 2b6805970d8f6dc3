/- Diagrams: Compacted, in the model and in the program. -/
import Derived.Test.YtnhjcokmajejcaaCpS
import Derived.Test.YtnhjcokmajejcaaCpI
import Derived.Test.YtnhjcokmajejcaaDgA
import Derived.Test.YtnhjcokmajejcaaDgV
namespace Go.Proofs.Ytnhjcokmajejcaa
open Go.RowKit
set_option maxRecDepth 100000

noncomputable def cmpB (d : Dg) (nn : Int) : Dg × Int := if (dgB d && isP d nn) = true then inF 13 d ⟨d.vars, []⟩ nn else (⟨0, []⟩, -1)
theorem var_13 {d : Dg} {n : Int} (ok : d.Ok) (p : isP d n = true) : d.vars - varP d n < (13 : Nat) := by
  have := ok.var p
  have := ok.hi
  omega
theorem inF_13 {d : Dg} {n : Int} (ok : d.Ok) (p : isP d n = true) : (inF 13 d ⟨d.vars, []⟩ n).1.forks.length ≤ 2000 ∧ 0 ≤ (inF 13 d ⟨d.vars, []⟩ n).2 := by
  obtain ⟨l, S, e, i, E, k, _⟩ := inF_ok ok 13 ⟨d.vars, []⟩ [] n p (var_13 ok p) (ok_empty ok.lo ok.hi) (src_nil d)
  refine ⟨k.few, ?_⟩
  rw [e]
  exact (pm_lt i (isP_iff.1 p).1).1
theorem run_make_full (n : Nat) (hn : n ≤ 100000) (w : World) : (Instr.makeSlice 26 (.int .i64 n) (.int .i64 n)).run Try.prog w = .ok (.slice (some ⟨w.heap.size, 0, none⟩) n n) (w.alloc (.cells (madeCells #[.int .i64 0] n) 3)) := by
  have h := run_make (P := Try.prog) w 26 3 intRow (.int .i64 0) Try.underlying26 int_row.1 int_row.2.1 .i64 .i64 n n (by omega) (by omega) (by rw [int_row.2.2.2]; omega) (by omega)
  rw [int_row.2.2.1] at h
  simp only [Int.toNat_natCast, Nat.mul_one] at h
  exact h

set_option maxHeartbeats 4000000 in
theorem cmp_spec (d : Dg) (nn : Int) (A : Option Addr) (n c : Nat) (w : World) (h1 : Mem.rd w w.heap.size [.slice A n c] d.forks) :
    Calls Try.prog 26 #[.agg #[.int .i64 d.vars, .slice A n c], .int .i64 nn] w (GivesDgN w (cmpB d nn).1 (cmpB d nn).2) := by
  obtain rfl : d.forks.length = n := rd_len h1
  have CK := Lib.hid (fun W (B : Below w.heap.size w W) => dgValid_spec d A d.forks.length c W (Mem.rd_on h1 B))
  have BX := Lib.hid (two_boxes w #[.int .i64 d.vars, .slice A d.forks.length c] #[.int .i64 0, .slice none 0 0] 62 62)
  have B0 : Below w.heap.size w ((w.alloc (.cells #[.int .i64 d.vars, .slice A d.forks.length c] 62)).alloc (.cells #[.int .i64 0, .slice none 0 0] 62)) := (below_alloc w _).alloc (by simp) _
  cases k1 : dgB d
  · have hE : cmpB d nn = (⟨0, []⟩, -1) := if_neg (by rw [k1]; simp)
    have HT := Lib.hid hE
    rw [k1] at CK
    generalize cmpB d nn = R at *
    obtain ⟨v, fs⟩ := d
    dsimp only at *
    clear hE k1 h1
    go_enter Try.func26, Try.ntmps26
    go_wp2_with fail
    refine (CK.out _ B0).mono ?_
    rintro e w1 ⟨rfl, b1⟩
    obtain ⟨B1, kb1, kr1⟩ := BX.out _ b1
    have x0 := kb1.cell 0
    have x1 := kb1.cell 1
    have f0 := kr1.frozen 0
    have f1 := kr1.frozen 1
    have y0 := kr1.cell 0
    have y1 := kr1.cell 1
    simp only [List.getElem?_cons_zero, List.getElem?_cons_succ] at x0 x1 y0 y1
    go_wp2
    have K2 := (kr1.set 0 (.int .i64 0)).set 1 (.slice none 0 0)
    have b8 := (B1.setCell (p := ⟨w.heap.size + 1, 0, none⟩) (Nat.le_succ _) (.int .i64 0)).setCell (p := ⟨w.heap.size + 1, 1, none⟩) (Nat.le_succ _) (.slice none 0 0)
    generalize (w1.setCell ⟨w.heap.size + 1, 0, none⟩ (.int .i64 0)).setCell ⟨w.heap.size + 1, 1, none⟩ (.slice none 0 0) = w8 at K2 b8 ⊢
    have r0 := K2.cell 0
    have r1 := K2.cell 1
    simp only [List.set_cons_zero, List.set_cons_succ, List.getElem?_cons_zero, List.getElem?_cons_succ] at r0 r1
    exact bodyPost_ret (v := .tuple #[.agg #[.int .i64 0, .slice none 0 0], .int .i64 (-1)]) (by simp [results, Try.results26, go_sem, r0, r1]) rfl (by rw [HT.out]; exact gives_dg_nil b8)
  · have ok := dgB_iff.1 k1
    have few := ok.few
    rw [k1] at CK
    have L1 := Lib.hid (fun W => l8Place_any d A c nn W (by omega))
    cases q1 : isP d nn
    · have hE : cmpB d nn = (⟨0, []⟩, -1) := if_neg (by rw [q1]; simp)
      have HT := Lib.hid hE
      rw [q1] at L1
      generalize cmpB d nn = R at *
      obtain ⟨v, fs⟩ := d
      dsimp only at *
      clear hE k1 h1 q1 ok
      go_enter Try.func26, Try.ntmps26
      go_wp2_with fail
      refine (CK.out _ B0).mono ?_
      rintro e w1 ⟨rfl, b1⟩
      obtain ⟨B1, kb1, kr1⟩ := BX.out _ b1
      have x0 := kb1.cell 0
      have x1 := kb1.cell 1
      have f0 := kr1.frozen 0
      have f1 := kr1.frozen 1
      have y0 := kr1.cell 0
      have y1 := kr1.cell 1
      simp only [List.getElem?_cons_zero, List.getElem?_cons_succ] at x0 x1 y0 y1
      go_wp2_with fail
      refine (L1.out _).mono ?_
      rintro e w2 ⟨rfl, c2⟩
      have b2 := b1.trans (c2.mono b1.size)
      obtain ⟨B2, kb2, kr2⟩ := BX.out _ b2
      have x0 := kb2.cell 0
      have x1 := kb2.cell 1
      have f0 := kr2.frozen 0
      have f1 := kr2.frozen 1
      have y0 := kr2.cell 0
      have y1 := kr2.cell 1
      simp only [List.getElem?_cons_zero, List.getElem?_cons_succ] at x0 x1 y0 y1
      go_wp2
      have K2 := (kr2.set 0 (.int .i64 0)).set 1 (.slice none 0 0)
      have b8 := (B2.setCell (p := ⟨w.heap.size + 1, 0, none⟩) (Nat.le_succ _) (.int .i64 0)).setCell (p := ⟨w.heap.size + 1, 1, none⟩) (Nat.le_succ _) (.slice none 0 0)
      generalize (w2.setCell ⟨w.heap.size + 1, 0, none⟩ (.int .i64 0)).setCell ⟨w.heap.size + 1, 1, none⟩ (.slice none 0 0) = w8 at K2 b8 ⊢
      have r0 := K2.cell 0
      have r1 := K2.cell 1
      simp only [List.set_cons_zero, List.set_cons_succ, List.getElem?_cons_zero, List.getElem?_cons_succ] at r0 r1
      exact bodyPost_ret (v := .tuple #[.agg #[.int .i64 0, .slice none 0 0], .int .i64 (-1)]) (by simp [results, Try.results26, go_sem, r0, r1]) rfl (by rw [HT.out]; exact gives_dg_nil b8)
    · rw [q1] at L1
      rw [show cmpB d nn = inF 13 d ⟨d.vars, []⟩ nn from if_pos (by rw [k1, q1]; rfl)]
      have CO := Lib.hid (fun W (B : Below w.heap.size w W) => l9Into_any d ok A c 13 ⟨d.vars, []⟩ [] none 0 nn W.heap.size W (World.ownsRow_nil W W.heap.size 152 3) (Nat.le_refl _) (Mem.rd_on h1 B) (ok_empty ok.lo ok.hi) (src_nil d) q1 (var_13 ok q1))
      have HW := Lib.hid (inF_13 ok q1).1
      generalize inF 13 d ⟨d.vars, []⟩ nn = R at *
      obtain ⟨v, fs⟩ := d
      obtain ⟨⟨rm, rg⟩, re⟩ := R
      have HT : Hid (((⟨rm, rg⟩ : Dg), re) = (⟨rm, rg⟩, re)) := Lib.hid rfl
      dsimp only [List.length_nil] at *
      clear k1 h1 q1 ok
      go_enter Try.func26, Try.ntmps26
      go_wp2_with fail
      refine (CK.out _ B0).mono ?_
      rintro e w1 ⟨rfl, b1⟩
      obtain ⟨B1, kb1, kr1⟩ := BX.out _ b1
      have x0 := kb1.cell 0
      have x1 := kb1.cell 1
      have f0 := kr1.frozen 0
      have f1 := kr1.frozen 1
      have y0 := kr1.cell 0
      have y1 := kr1.cell 1
      simp only [List.getElem?_cons_zero, List.getElem?_cons_succ] at x0 x1 y0 y1
      go_wp2_with fail
      refine (L1.out _).mono ?_
      rintro e w2 ⟨rfl, c2⟩
      have b2 := b1.trans (c2.mono b1.size)
      obtain ⟨B2, kb2, kr2⟩ := BX.out _ b2
      have x0 := kb2.cell 0
      have x1 := kb2.cell 1
      have f0 := kr2.frozen 0
      have f1 := kr2.frozen 1
      have y0 := kr2.cell 0
      have y1 := kr2.cell 1
      simp only [List.getElem?_cons_zero, List.getElem?_cons_succ] at x0 x1 y0 y1
      go_wp2_with fail
      refine (CO.out _ B2).mono ?_
      rintro e w9 ⟨A7, c7, rfl, on9, o9, _⟩
      have d9 : Below w2.heap.size w2 w9 := on9.below (Nat.le_refl _) (fun x hx => by cases hx)
      have b9 := b2.trans (d9.mono b2.size)
      obtain ⟨B9, kb9, kr9⟩ := BX.out _ b9
      have x0 := kb9.cell 0
      have x1 := kb9.cell 1
      have f0 := kr9.frozen 0
      have f1 := kr9.frozen 1
      have y0 := kr9.cell 0
      have y1 := kr9.cell 1
      simp only [List.getElem?_cons_zero, List.getElem?_cons_succ] at x0 x1 y0 y1
      have hw2 : w.heap.size + 1 < w2.heap.size := kr2.lt
      clear on9
      have n9 : (Value.slice A7 (rg).length c7).ownBlock ≠ some (w.heap.size + 1) := fun e => by have := (o9.lt _ e).1; (try simp only [World.size_alloc] at this); omega
      go_wp2
      have K2 := (kr9.set 0 (.int .i64 rm)).set 1 (.slice A7 (rg).length c7)
      have o8 := own_away (own_away o9 (p := ⟨w.heap.size + 1, 0, none⟩) (.int .i64 rm) n9) (p := ⟨w.heap.size + 1, 1, none⟩) (.slice A7 (rg).length c7) n9
      have b8 := (B9.setCell (p := ⟨w.heap.size + 1, 0, none⟩) (Nat.le_succ _) (.int .i64 rm)).setCell (p := ⟨w.heap.size + 1, 1, none⟩) (Nat.le_succ _) (.slice A7 (rg).length c7)
      generalize (w9.setCell ⟨w.heap.size + 1, 0, none⟩ (.int .i64 rm)).setCell ⟨w.heap.size + 1, 1, none⟩ (.slice A7 (rg).length c7) = w8 at K2 b8 o8 ⊢
      have r0 := K2.cell 0
      have r1 := K2.cell 1
      simp only [List.set_cons_zero, List.set_cons_succ, List.getElem?_cons_zero, List.getElem?_cons_succ] at r0 r1
      obtain ⟨fp, q1, q2, q3⟩ := own_flat (α := Fk) o8 rfl (by unfold maxLen; have := HW.out; omega)
      exact bodyPost_ret (v := .tuple #[.agg #[.int .i64 rm, .slice A7 (rg).length c7], .int .i64 re]) (by simp [results, Try.results26, go_sem, r0, r1]) rfl (by exact ⟨A7, _, c7, fp, rfl, q1, q2, fun x hx => by have := q3 x hx; have := hw2; omega, b8⟩)

/-- The maker copies what a place of another diagram is: an empty maker. -/
def GivesCp (base g : Nat) (d M : Dg) (nn : Int) (w : World) (e : Ending) (w' : World) : Prop := e = .returned (.int .i64 (inF 13 d M nn).2) ∧ MkD w' base g (inF 13 d M nn).1 false 0 ∧ Below base w w'
set_option maxHeartbeats 4000000 in
theorem copied_any (d : Dg) (ok : d.Ok) (A : Option Addr) (c : Nat) (nn : Int) (q1 : isP d nn = true) (base g : Nat) (w : World) (hMk : MkD w base g ⟨d.vars, []⟩ false 0) (hb : base ≤ w.heap.size) (hr : Mem.rd w base [.slice A d.forks.length c] d.forks) :
    Calls Try.prog 72 #[.pointer (some ⟨g, 0, none⟩), .agg #[.int .i64 d.vars, .slice A d.forks.length c], .int .i64 nn] w (GivesCp base g d ⟨d.vars, []⟩ nn w) := by
  have few := ok.few
  obtain ⟨M, hM⟩ : ∃ M : Nat, M = 2 + d.forks.length := ⟨_, rfl⟩
  have SZ := Lib.hid (fun W => size_d d A c W (by omega))
  rw [show (2 : Int) + d.forks.length = (M : Int) by omega] at SZ
  have hM1 : M ≤ 100000 := by omega
  have HS := fun W => run_make_full M hM1 W
  have C0 : (madeCells #[.int .i64 0] M).toList = ints (becF d []) := by
    rw [becF_nil, ← hM]
    exact (toList_madeCells_one _ _).trans (by simp [ints])
  have TK := Lib.hid (fun (W : World) (hMk : MkD W base g ⟨d.vars, []⟩ false 0) (hb : base ≤ W.heap.size) (hr : Mem.rd W base [.slice A d.forks.length c] d.forks) =>
    (taken_any d ok A c 13 ⟨d.vars, []⟩ [] nn 0 base g W.heap.size (W.alloc (.cells (madeCells #[.int .i64 0] M) 3)) (mkD_below hMk (below_alloc W _)) (by simp; omega)
      (by rw [← C0]; exact ci_blk W _ _) hb (fun q => by
        have := mine_lt hMk ((mine_heap ((below_alloc W _).block g (mkD_lt hMk).1)).1 q)
        omega) (Mem.rd_below hr ((below_alloc W _).mono hb)) (src_nil d) q1 (var_13 ok q1)).mono
      (R' := fun e w' => e = .returned (.int .i64 (inF 13 d ⟨d.vars, []⟩ nn).2) ∧ MkD w' base g (inF 13 d ⟨d.vars, []⟩ nn).1 false 0 ∧ Below base (W.alloc (.cells (madeCells #[.int .i64 0] M) 3)) w' ∧ Frame2 g W.heap.size (W.alloc (.cells (madeCells #[.int .i64 0] M) 3)) w')
      (fun e w' h => by obtain ⟨l, g1, g2, _, g4, _, _, _, g8⟩ := h; exact ⟨g1, g2, g4, g8⟩))
  rw [← hM] at TK
  have B0 := below_alloc w (.cells #[.int .i64 d.vars, .slice A d.forks.length c] 62)
  have kd := ci_blk w #[.int .i64 d.vars, .slice A d.forks.length c] 62
  have HMk := Lib.hid (mkD_below hMk B0)
  have NM := Lib.hid (fun W (B : Below w.heap.size w W) (q : mine W g w.heap.size) => show False from by
    have := mine_lt hMk ((mine_heap (B.block g (mkD_lt hMk).1)).1 q)
    omega)
  have HB0 := Lib.hid B0
  have HKD := Lib.hid kd
  have HRb := Lib.hid (fun W (B : Below base w W) => (Mem.rd_below hr B : Mem.rd W base [.slice A d.forks.length c] d.forks))
  have x0 := kd.cell 0
  have x1 := kd.cell 1
  have l0 := kd.lt
  simp only [List.getElem?_cons_zero, List.getElem?_cons_succ] at x0 x1
  have hW : w.heap.size < (w.alloc (.cells #[.int .i64 d.vars, .slice A d.forks.length c] 62)).heap.size := by simp
  have HB := Lib.hid (B0.mono hb)
  have HH := Lib.hid hb
  clear hM C0 hMk hr B0 kd few hb
  unfold GivesCp
  generalize inF 13 d ⟨d.vars, []⟩ nn = R at *
  obtain ⟨⟨rm, rg⟩, re⟩ := R
  dsimp only at *
  go_enter Try.func72, Try.ntmps72
  go_upto_region 1 with fail
  generalize hW1 : w.alloc (.cells #[.int .i64 d.vars, .slice A d.forks.length c] 62) = W1 at *
  clear hW1
  have hlW := hW
  have hbW : base ≤ W1.heap.size := Nat.le_trans HH.out (by omega)
  go_region_held3 (fun w' => w'.cell? ⟨w.heap.size, 0, none⟩ = some (.int .i64 d.vars) ∧ w'.cell? ⟨w.heap.size, 1, none⟩ = some (.slice A d.forks.length c)) (go_keep)
    (first
      | (go_at_call 105; refine (SZ.out _).mono ?_; rintro e w4 ⟨rfl, c4'⟩
         have c4 : Below W1.heap.size W1 w4 := ⟨c4'.os, c4'.tape, c4'.output, c4'.size, c4'.block⟩
         have x0 := cell_below c4 (p := ⟨w.heap.size, 0, none⟩) l0 x0
         have x1 := cell_below c4 (p := ⟨w.heap.size, 1, none⟩) l0 x1
         have TK4 := Lib.hid (TK.out w4 (mkD_below HMk.out c4) (Nat.le_trans hbW c4.size) (HRb.out _ (HB.out.trans (c4.mono hbW)))))
      | (go_at_call 104; refine (TK4.out).mono ?_; rintro e w5 ⟨rfl, hM5, b5, fr5⟩
         have b4a := c4.trans ((below_alloc w4 (.cells (madeCells #[.int .i64 0] M) 3)).mono c4.size)
         have k5 := fr5.blk (HKD.out.below b4a HKD.out.lt) (by have := c4.size; omega) (NM.out _ (HB0.out.trans (b4a.mono (by omega))))
         have x0 := k5.cell 0
         have x1 := k5.cell 1
         simp only [List.getElem?_cons_zero, List.getElem?_cons_succ] at x0 x1
         have B5 := Lib.hid ((HB.out.trans (c4.mono hbW)).trans (((below_alloc w4 (.cells (madeCells #[.int .i64 0] M) 3)).mono (Nat.le_trans hbW c4.size)).trans b5))
         have HM5 := Lib.hid hM5
         clear hM5 b5))
  all_goals
    go_wp2
    go_ret
    exact ⟨rfl, HM5.out, B5.out⟩

set_option maxHeartbeats 4000000 in
theorem cmp_impl (d : Dg) (nn : Int) (A : Option Addr) (n c : Nat) (w : World) (h1 : Mem.rd w w.heap.size [.slice A n c] d.forks) :
    Calls Try.prog 28 #[.agg #[.int .i64 d.vars, .slice A n c], .int .i64 nn] w (GivesDgN w (cmpB d nn).1 (cmpB d nn).2) := by
  obtain rfl : d.forks.length = n := rd_len h1
  have BX := Lib.hid (two_boxes w #[.int .i64 d.vars, .slice A d.forks.length c] #[.int .i64 0, .slice none 0 0] 62 62)
  have B0 : Below w.heap.size w ((w.alloc (.cells #[.int .i64 d.vars, .slice A d.forks.length c] 62)).alloc (.cells #[.int .i64 0, .slice none 0 0] 62)) := (below_alloc w _).alloc (by simp) _
  have HP := Lib.hid (fun W (B : Below w.heap.size w W) => hasPlaces_any d [nn] A d.forks.length c (some ⟨W.heap.size, 0, none⟩) 1 1 (W.alloc (.cells #[.int .i64 nn] 3)) (Mem.rd_on_alloc (Mem.rd_on h1 B) _) (rd_newD1 W nn))
  have eP : (dgB d && areP d [nn]) = (dgB d && isP d nn) := by simp [areP]
  rw [eP] at HP
  cases k1 : (dgB d && isP d nn)
  · rw [k1] at HP
    have hE : cmpB d nn = (⟨0, []⟩, -1) := if_neg (by rw [k1]; simp)
    have HT := Lib.hid hE
    generalize cmpB d nn = R at *
    have MK0 := HP.out _ B0
    simp only [World.size_alloc] at MK0
    obtain ⟨v, fs⟩ := d
    dsimp only at *
    clear hE k1 h1 eP
    go_enter Try.func28, Try.ntmps28
    go_wp2_with fail
    refine MK0.mono ?_
    rintro e w1 ⟨rfl, b1'⟩
    have b1 := below_call b1'
    obtain ⟨B1, kb1, kr1⟩ := BX.out _ b1
    have x0 := kb1.cell 0
    have x1 := kb1.cell 1
    have f0 := kr1.frozen 0
    have f1 := kr1.frozen 1
    have y0 := kr1.cell 0
    have y1 := kr1.cell 1
    simp only [List.getElem?_cons_zero, List.getElem?_cons_succ] at x0 x1 y0 y1
    go_wp2
    have K2 := (kr1.set 0 (.int .i64 0)).set 1 (.slice none 0 0)
    have b8 := (B1.setCell (p := ⟨w.heap.size + 1, 0, none⟩) (Nat.le_succ _) (.int .i64 0)).setCell (p := ⟨w.heap.size + 1, 1, none⟩) (Nat.le_succ _) (.slice none 0 0)
    generalize (w1.setCell ⟨w.heap.size + 1, 0, none⟩ (.int .i64 0)).setCell ⟨w.heap.size + 1, 1, none⟩ (.slice none 0 0) = w8 at K2 b8 ⊢
    have r0 := K2.cell 0
    have r1 := K2.cell 1
    simp only [List.set_cons_zero, List.set_cons_succ, List.getElem?_cons_zero, List.getElem?_cons_succ] at r0 r1
    exact bodyPost_ret (v := .tuple #[.agg #[.int .i64 0, .slice none 0 0], .int .i64 (-1)]) (by simp [results, Try.results28, go_sem, r0, r1]) rfl (by rw [HT.out]; exact gives_dg_nil b8)
  · rw [k1] at HP
    rw [show cmpB d nn = inF 13 d ⟨d.vars, []⟩ nn from if_pos k1]
    rw [Bool.and_eq_true] at k1
    obtain ⟨k1, q1⟩ := k1
    have ok := dgB_iff.1 k1
    have few := ok.few
    have v0 := ok.lo
    have v12 := ok.hi
    have CP := Lib.hid (fun (base g : Nat) (W : World) (hMk : MkD W base g ⟨d.vars, []⟩ false 0) (hb : base ≤ W.heap.size) (hr : Mem.rd W base [.slice A d.forks.length c] d.forks) => copied_any d ok A c nn q1 base g W hMk hb hr)
    unfold GivesCp at CP
    have HR := Lib.hid (fun W (B : Below w.heap.size w W) => Mem.rd_on h1 B)
    have HRb := Lib.hid (fun b W (hb : w.heap.size ≤ b) (B : Below w.heap.size w W) => (Mem.rd_more (Mem.rd_below h1 B) hb : Mem.rd W b [.slice A d.forks.length c] d.forks))
    have HW := Lib.hid (inF_13 ok q1)
    generalize inF 13 d ⟨d.vars, []⟩ nn = R at *
    obtain ⟨⟨rm, rg⟩, re⟩ := R
    have HT : Hid (((⟨rm, rg⟩ : Dg), re) = (⟨rm, rg⟩, re)) := Lib.hid rfl
    have MK0 := HP.out _ B0
    simp only [World.size_alloc] at MK0
    clear h1 eP k1 q1
    dsimp only at CP
    go_enter Try.func28, Try.ntmps28
    go_wp2_with fail
    refine MK0.mono ?_
    rintro e w1 ⟨rfl, b1'⟩
    have b1 := below_call b1'
    obtain ⟨B1, kb1, kr1⟩ := BX.out _ b1
    have x0 := kb1.cell 0
    have x1 := kb1.cell 1
    have f0 := kr1.frozen 0
    have f1 := kr1.frozen 1
    have y0 := kr1.cell 0
    have y1 := kr1.cell 1
    simp only [List.getElem?_cons_zero, List.getElem?_cons_succ] at x0 x1 y0 y1
    go_wp2_with fail
    refine (empty_any d.vars 0 w1 v0 v12 (by omega)).mono ?_
    rintro e w3 ⟨g, rfl, hMk, c3⟩
    have b3 := b1.trans (c3.mono b1.size)
    obtain ⟨B3, kb3, kr3⟩ := BX.out _ b3
    have x0 := kb3.cell 0
    have x1 := kb3.cell 1
    have f0 := kr3.frozen 0
    have f1 := kr3.frozen 1
    have y0 := kr3.cell 0
    have y1 := kr3.cell 1
    simp only [List.getElem?_cons_zero, List.getElem?_cons_succ] at x0 x1 y0 y1
    have l0 := kb3.lt
    have l1 := kr3.lt
    have hb13 : w1.heap.size ≤ w3.heap.size := c3.size
    have hw1 : w.heap.size + 1 < w1.heap.size := kr1.lt
    have KR3 := Lib.hid kr3
    have HMk := Lib.hid hMk
    have HB3 := Lib.hid b3
    clear kr3 hMk kb3
    go_wp2_with fail
    refine (CP.out w1.heap.size g w3 HMk.out hb13 (HRb.out _ _ (by omega) B3)).mono ?_
    rintro e w5 ⟨rfl, hM5, b5⟩
    have x0 := cell_below b5 (p := ⟨w.heap.size, 0, none⟩) (by show w.heap.size < w1.heap.size; omega) x0
    have x1 := cell_below b5 (p := ⟨w.heap.size, 1, none⟩) (by show w.heap.size < w1.heap.size; omega) x1
    go_wp2_with fail
    refine (toldP_yes _ re _ g _ _ hM5).mono ?_
    rintro e w9 ⟨A7, c7, rfl, o9, d9⟩
    have b9a := b5.trans (d9.mono (Nat.le_trans hb13 b5.size))
    have B9 := B3.trans (b9a.mono (by omega))
    have kr9 := KR3.out.below b9a hw1
    have f0 := kr9.frozen 0
    have f1 := kr9.frozen 1
    have y0 := kr9.cell 0
    have y1 := kr9.cell 1
    simp only [List.getElem?_cons_zero, List.getElem?_cons_succ] at y0 y1
    have l9 := kr9.lt
    have n9 : (Value.slice A7 (rg).length c7).ownBlock ≠ some (w.heap.size + 1) := fun e => by have := (o9.lt _ e).1; (try simp only [World.size_alloc] at this); omega
    go_wp2
    have K2 := (kr9.set 0 (.int .i64 rm)).set 1 (.slice A7 (rg).length c7)
    have o8 := own_away (own_away o9 (p := ⟨w.heap.size + 1, 0, none⟩) (.int .i64 rm) n9) (p := ⟨w.heap.size + 1, 1, none⟩) (.slice A7 (rg).length c7) n9
    have b8 := (B9.setCell (p := ⟨w.heap.size + 1, 0, none⟩) (Nat.le_succ _) (.int .i64 rm)).setCell (p := ⟨w.heap.size + 1, 1, none⟩) (Nat.le_succ _) (.slice A7 (rg).length c7)
    generalize (w9.setCell ⟨w.heap.size + 1, 0, none⟩ (.int .i64 rm)).setCell ⟨w.heap.size + 1, 1, none⟩ (.slice A7 (rg).length c7) = w8 at K2 b8 o8 ⊢
    have r0 := K2.cell 0
    have r1 := K2.cell 1
    simp only [List.set_cons_zero, List.set_cons_succ, List.getElem?_cons_zero, List.getElem?_cons_succ] at r0 r1
    obtain ⟨fp, q1, q2, q3⟩ := own_flat (α := Fk) o8 rfl (by unfold maxLen; have := HW.out; omega)
    exact bodyPost_ret (v := .tuple #[.agg #[.int .i64 rm, .slice A7 (rg).length c7], .int .i64 re]) (by simp [results, Try.results28, go_sem, r0, r1]) rfl (by exact ⟨A7, _, c7, fp, rfl, q1, q2, fun x hx => by have := q3 x hx; have := hw1; omega, b8⟩)

noncomputable def cmp1 (d : Dg) (nn : Int) : Dg := (cmpB d nn).1
noncomputable def cmp2 (d : Dg) (nn : Int) : Int := (cmpB d nn).2
theorem cmp_specR (d : Dg) (nn : Int) (A : Option Addr) (n c : Nat) (w : World) (h1 : Mem.rd w w.heap.size [.slice A n c] d.forks) :
    Calls Try.prog 26 #[.agg #[.int .i64 d.vars, .slice A n c], .int .i64 nn] w (GivesDgN w (cmp1 d nn) (cmp2 d nn)) := cmp_spec d nn A n c w h1
theorem cmp_implR (d : Dg) (nn : Int) (A : Option Addr) (n c : Nat) (w : World) (h1 : Mem.rd w w.heap.size [.slice A n c] d.forks) :
    Calls Try.prog 28 #[.agg #[.int .i64 d.vars, .slice A n c], .int .i64 nn] w (GivesDgN w (cmp1 d nn) (cmp2 d nn)) := cmp_impl d nn A n c w h1
theorem cmp1_len (d : Dg) (nn : Int) : (cmp1 d nn).forks.length ≤ 1048576 := by
  unfold cmp1 cmpB
  split
  · rename_i h
    rw [Bool.and_eq_true] at h
    exact Nat.le_trans (inF_13 (dgB_iff.1 h.1) h.2).1 (by omega)
  · simp
end Go.Proofs.Ytnhjcokmajejcaa
