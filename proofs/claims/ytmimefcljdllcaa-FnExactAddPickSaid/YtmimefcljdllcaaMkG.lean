/- Circuits that are made: picks, in the model. -/
import Derived.Test.YtmimefcljdllcaaMkZ
import Derived.Test.YtmimefcljdllcaaMkC
namespace Go.Proofs.Ytmimefcljdllcaa
open Go.RowKit

theorem pickB_gd {s : Ci} {z y n : Int} (h : Gd s) (z0 : 0 ≤ z) (z1 : z < 2000) (y0 : 0 ≤ y) (y1 : y < 2000) (n0 : 0 ≤ n) (n1 : n < 2000) : (pickB s z y n).1.gates.length ≤ 600 ∧ -1 ≤ (pickB s z y n).2 := by
  unfold pickB
  have nz := notE_lo (e := z) (by omega)
  have nz1 := notE_hi z1
  have d1 := andB_gd h z0 z1 y0 y1
  split
  · exact ⟨h.few, by dsimp only; omega⟩
  · split
    · exact ⟨h.few, by dsimp only; omega⟩
    · have d2 := andB_gd d1.1 (nz.2.2 z0) nz1 n0 n1
      split
      · exact ⟨h.few, by dsimp only; omega⟩
      · exact ⟨orB_few d2.1 (by omega) d1.2.2.2 (by omega) d2.2.2.2, orB_lo d2.1 (by omega) d1.2.2.2 (by omega) d2.2.2.2⟩
/-- Storing two cells into a block that is there. -/
theorem fin_two {w wE : World} {g : Nat} {t : TypeId} {u0 u1 v0 v1 : Value} (k : Blk w g t [u0, u1]) (e : wE.heap = ((w.setCell ⟨g, 0, none⟩ v0).setCell ⟨g, 1, none⟩ v1).heap) : wE.cell? ⟨g, 0, none⟩ = some v0 ∧ wE.cell? ⟨g, 1, none⟩ = some v1 := by
  have k2 := blk_of_heap ((k.set 0 v0).set 1 v1) e
  have r0 := k2.cell 0
  have r1 := k2.cell 1
  simp only [List.set_cons_zero, List.set_cons_succ, List.getElem?_cons_zero, List.getElem?_cons_succ] at r0 r1
  exact ⟨r0, r1⟩

theorem only_wider {fp fq : List Nat} {w a b : World} (h : Only fp w a) (k : Only fq a b) (hs : ∀ x ∈ fq, x ∈ fp ∨ w.heap.size ≤ x) : Only fp w b :=
  ⟨k.os.trans h.os, k.tape.trans h.tape, k.output.trans h.output, Nat.le_trans h.size k.size, fun i hi hn => (k.block i (Nat.lt_of_lt_of_le hi h.size) (fun hq => by rcases hs i hq with q | q; exact hn q; omega)).trans (h.block i hi hn)⟩

set_option maxRecDepth 100000 in
set_option maxHeartbeats 2000000 in
theorem l7Pick_same (s : Ci) (A : Option Addr) (c : Nat) (z y : Int) (base : Nat) (w : World) (ho : w.ownsRow base 52 2 (.slice A s.gates.length c) s.gates.length (fl s.gates)) :
    Calls Try.prog 61 #[.agg #[.int .i64 s.ins, .slice A s.gates.length c], .int .i64 z, .int .i64 y, .int .i64 y] w (GivesCW base (bl (.slice A s.gates.length c)) w (s, y)) := by
  have g1 : (y == y) = true := by simp
  obtain ⟨m, gs⟩ := s
  dsimp only at *
  have HO := Lib.hid (fun o o' => (ho.alloc o).alloc o')
  clear ho
  go_enter Try.func61, Try.ntmps61
  go_wp2
  exact bodyPost_ret (v := .tuple #[.agg #[.int .i64 m, .slice A gs.length c], .int .i64 y]) (by simp [results, Try.results61, go_sem]) rfl ⟨m, A, _, c, rfl, fun _ => ⟨rfl, rfl, HO.out _ _⟩, Only.of_below (((Below.refl _ w).alloc (Nat.le_refl _) _).alloc (by simp) _) _, fun x hx => .inl hx⟩

set_option maxRecDepth 100000 in
set_option maxHeartbeats 2000000 in
theorem l7Pick_main (s : Ci) (A : Option Addr) (c : Nat) (z y n : Int) (base : Nat) (w : World) (ho : w.ownsRow base 52 2 (.slice A s.gates.length c) s.gates.length (fl s.gates)) (hb : base ≤ w.heap.size) (h : Gd s) (z0 : 0 ≤ z) (z1 : z < 2000) (y0 : 0 ≤ y) (y1 : y < 2000) (n0 : 0 ≤ n) (n1 : n < 2000) (hyn : y ≠ n) :
    Calls Try.prog 61 #[.agg #[.int .i64 s.ins, .slice A s.gates.length c], .int .i64 z, .int .i64 y, .int .i64 n] w (GivesCW base (bl (.slice A s.gates.length c)) w (pickB s z y n)) := by
  have g1 : (y == n) = false := by simp [hyn]
  have nz := notE_lo (e := z) (by omega)
  have nz1 := notE_hi z1
  have nz0 := nz.2.2 z0
  have d1 := andB_gd h z0 z1 y0 y1
  have e : pickB s z y n = if (andB s z y).2 < 0 then (s, -1) else if (andB (andB s z y).1 (notE z) n).2 < 0 then (s, -1) else orB (andB (andB s z y).1 (notE z) n).1 (andB s z y).2 (andB (andB s z y).1 (notE z) n).2 := if_neg hyn
  rw [e]
  clear e nz
  have LA := Lib.hid (fun W (B : Below w.heap.size w W) => l7And_any s A c z y base W (own_below ho B) (Nat.le_trans hb B.size) z0 z1 y0 y1 h)
  have NBk := Lib.hid (fun x (hx : w.heap.size ≤ x) (e : (Value.slice A s.gates.length c).ownBlock = some x) => show False from by have := (ho.lt x e).2; omega)
  generalize andB s z y = R1 at *
  obtain ⟨⟨m1, gs1⟩, e1⟩ := R1
  obtain ⟨m, gs⟩ := s
  dsimp only at *
  have LA := Lib.hid (show ∀ W, Below w.heap.size w W → Calls Try.prog 52 #[.agg #[.int .i64 m, .slice A gs.length c], .int .i64 z, .int .i64 y] W (fun e w' => ∃ A5 c5, e = .returned (.tuple #[.agg #[.int .i64 m1, .slice A5 gs1.length c5], .int .i64 e1]) ∧ w'.ownsRow base 52 2 (.slice A5 gs1.length c5) gs1.length (fl gs1) ∧ Only (bl (.slice A gs.length c)) W w' ∧ ∀ x ∈ bl (.slice A5 gs1.length c5), x ∈ bl (.slice A gs.length c) ∨ W.heap.size ≤ x) from fun W B => LA.out W B)
  have NN := Lib.hid (fun W => l7Not_any z W (by omega) z1)
  have hfp : ∀ x, x ∈ bl (.slice A gs.length c) → x < w.heap.size := fun x hx => Nat.lt_of_not_le fun hle => NBk.out x hle (mem_bl.1 hx)
  have HFP := Lib.hid hfp
  have BX := Lib.hid (two_boxes w #[.int .i64 m, .slice A gs.length c] #[.int .i64 0, .slice none 0 0] 29 29 _ (Below.refl _ _))
  have B0 : Below w.heap.size w ((w.alloc (.cells #[.int .i64 m, .slice A gs.length c] 29)).alloc (.cells #[.int .i64 0, .slice none 0 0] 29)) := (below_alloc w _).alloc (by simp) _
  clear ho h hyn hfp
  by_cases he1 : e1 < 0
  · rw [if_pos he1]
    clear d1
    go_enter Try.func61, Try.ntmps61
    go_wp2_with fail
    generalize ((w.alloc (.cells #[.int .i64 m, .slice A gs.length c] 29)).alloc (.cells #[.int .i64 0, .slice none 0 0] 29)) = w1 at BX B0 ⊢
    refine (LA.out _ B0).mono ?_
    rintro e w5 ⟨A5, c5, rfl, ho5, on5, lo5⟩
    have nb0 : w.heap.size ∉ bl (.slice A gs.length c) := fun hm => by have := HFP.out _ hm; omega
    have nb1 : w.heap.size + 1 ∉ bl (.slice A gs.length c) := fun hm => by have := HFP.out _ hm; omega
    have kb := Blk.only BX.out.2.1 on5 nb0
    have kr := Blk.only BX.out.2.2 on5 nb1
    have x0 := kb.cell 0
    have x1 := kb.cell 1
    have f0 := kr.frozen 0
    have f1 := kr.frozen 1
    have y0' := kr.cell 0
    have y1' := kr.cell 1
    simp only [List.getElem?_cons_zero, List.getElem?_cons_succ] at x0 x1 y0' y1'
    have lk := kb.lt
    have lr := kr.lt
    go_wp2
    have q5 : Only (bl (.slice A gs.length c)) w w5 := (Only.of_below B0 _).trans on5
    have K2 := ((kr.set 0 (.int .i64 m)).set 1 (.slice A gs.length c)).alloc (.cells #[.int .i64 m1, .slice A5 gs1.length c5] 29)
    have q9 := (only_set (only_set q5 (p := ⟨w.heap.size + 1, 0, none⟩) (.int .i64 m) (Nat.le_succ _)) (p := ⟨w.heap.size + 1, 1, none⟩) (.slice A gs.length c) (Nat.le_succ _)).trans (Only.of_below (below_alloc _ (.cells #[.int .i64 m1, .slice A5 gs1.length c5] 29)) _)
    have r0 := K2.cell 0
    have r1 := K2.cell 1
    simp only [List.set_cons_zero, List.set_cons_succ, List.getElem?_cons_zero, List.getElem?_cons_succ] at r0 r1
    exact bodyPost_ret (v := .tuple #[.agg #[.int .i64 m, .slice A gs.length c], .int .i64 (-1)]) (by simp [results, Try.results61, go_sem, r0, r1]) rfl ⟨m, A, _, c, rfl, fun hx => absurd hx (by show ¬ (0 : Int) ≤ -1; omega), q9, fun x hx => .inl hx⟩
  · rw [if_neg he1]
    have d2 := andB_gd d1.1 nz0 nz1 n0 n1
    have LB := Lib.hid (fun A5 c5 W (o : W.ownsRow base 52 2 (.slice A5 gs1.length c5) gs1.length (fl gs1)) (hB : base ≤ W.heap.size) => l7And_any ⟨m1, gs1⟩ A5 c5 (notE z) n base W o hB nz0 nz1 n0 n1 d1.1)
    generalize andB ⟨m1, gs1⟩ (notE z) n = R2 at *
    obtain ⟨⟨m2, gs2⟩, e2⟩ := R2
    dsimp only at *
    have LB := Lib.hid (show ∀ A5 c5 W, W.ownsRow base 52 2 (.slice A5 gs1.length c5) gs1.length (fl gs1) → base ≤ W.heap.size → Calls Try.prog 52 #[.agg #[.int .i64 m1, .slice A5 gs1.length c5], .int .i64 (notE z), .int .i64 n] W (fun e w' => ∃ A7 c7, e = .returned (.tuple #[.agg #[.int .i64 m2, .slice A7 gs2.length c7], .int .i64 e2]) ∧ w'.ownsRow base 52 2 (.slice A7 gs2.length c7) gs2.length (fl gs2) ∧ Only (bl (.slice A5 gs1.length c5)) W w' ∧ ∀ x ∈ bl (.slice A7 gs2.length c7), x ∈ bl (.slice A5 gs1.length c5) ∨ W.heap.size ≤ x) from fun A5 c5 W o hB => LB.out A5 c5 W o hB)
    have he1' : 0 ≤ e1 := by omega
    clear he1
    by_cases he2 : e2 < 0
    · rw [if_pos he2]
      clear d1 d2
      go_enter Try.func61, Try.ntmps61
      go_wp2_with fail
      generalize ((w.alloc (.cells #[.int .i64 m, .slice A gs.length c] 29)).alloc (.cells #[.int .i64 0, .slice none 0 0] 29)) = w1 at BX B0 ⊢
      refine (LA.out _ B0).mono ?_
      rintro e w5 ⟨A5, c5, rfl, ho5, on5, lo5⟩
      have nb0 : w.heap.size ∉ bl (.slice A gs.length c) := fun hm => by have := HFP.out _ hm; omega
      have nb1 : w.heap.size + 1 ∉ bl (.slice A gs.length c) := fun hm => by have := HFP.out _ hm; omega
      have kb := Blk.only BX.out.2.1 on5 nb0
      have kr := Blk.only BX.out.2.2 on5 nb1
      have q5 : Only (bl (.slice A gs.length c)) w w5 := (Only.of_below B0 _).trans on5
      have z15 := on5.size
      have lw1 := BX.out.2.2.lt
      have L5 : ∀ x ∈ bl (.slice A5 gs1.length c5), (x ∈ bl (.slice A gs.length c) ∨ w.heap.size ≤ x) ∧ x ≠ w.heap.size ∧ x ≠ w.heap.size + 1 ∧ x < w5.heap.size := fun x hx => by
        have hl := (ho5.lt x (mem_bl.1 hx)).2
        rcases lo5 x hx with q | q
        · have := HFP.out _ q
          exact ⟨.inl q, by omega, by omega, hl⟩
        · exact ⟨.inr (by omega), by omega, by omega, hl⟩
      have lkr := kr.lt
      have x0 := kb.cell 0
      have x1 := kb.cell 1
      simp only [List.getElem?_cons_zero, List.getElem?_cons_succ] at x0 x1
      go_wp2
      have k10 := ci_blk w5 #[.int .i64 m1, .slice A5 gs1.length c5] 29
      have kb6 := kb.alloc (.cells #[.int .i64 m1, .slice A5 gs1.length c5] 29)
      have kr6 := kr.alloc (.cells #[.int .i64 m1, .slice A5 gs1.length c5] 29)
      have o6 := ho5.alloc (.cells #[.int .i64 m1, .slice A5 gs1.length c5] 29)
      have q6 := q5.trans (Only.of_below (below_alloc w5 (.cells #[.int .i64 m1, .slice A5 gs1.length c5] 29)) _)
      have z6 : w5.heap.size < (w5.alloc (.cells #[.int .i64 m1, .slice A5 gs1.length c5] 29)).heap.size := by rw [World.size_alloc]; omega
      clear x0 x1 kb kr ho5 on5 lo5 q5
      generalize w5.alloc (.cells #[.int .i64 m1, .slice A5 gs1.length c5] 29) = w6 at k10 kb6 kr6 o6 q6 z6 ⊢
      generalize hq10 : w5.heap.size = q10 at k10 L5 z6 lkr z15 ⊢
      have x0 := k10.cell 0
      have x1 := k10.cell 1
      simp only [List.getElem?_cons_zero, List.getElem?_cons_succ] at x0 x1
      have x0a : ∀ o, (w6.alloc o).drew.cell? ⟨q10, 0, none⟩ = some (.int .i64 m1) := fun o => show (w6.alloc o).cell? _ = _ from cell_below (below_alloc w6 o) z6 x0
      have x1a : ∀ o, (w6.alloc o).drew.cell? ⟨q10, 1, none⟩ = some (.slice A5 gs1.length c5) := fun o => show (w6.alloc o).cell? _ = _ from cell_below (below_alloc w6 o) z6 x1
      have hb6 : base ≤ w6.heap.size := Nat.le_trans hb q6.size
      have hb6a : ∀ o, base ≤ (w6.alloc o).drew.heap.size := fun o => by show base ≤ (w6.alloc o).heap.size; rw [World.size_alloc]; omega
      have O6 := Lib.hid o6
      have K6 := Lib.hid (⟨k10, kb6, kr6⟩ : Blk w6 _ _ _ ∧ Blk w6 _ _ _ ∧ Blk w6 _ _ _)
      have Q6 := Lib.hid q6
      have HL5 := Lib.hid L5
      have hne1 : q10 ≠ w6.heap.size := Nat.ne_of_lt z6
      clear o6 k10 kb6 kr6 q6 L5
      go_region_held3 (fun w' => w'.cell? ⟨q10, 0, none⟩ = some (.int .i64 m1) ∧ w'.cell? ⟨q10, 1, none⟩ = some (.slice A5 gs1.length c5))
        (first
          | with_reducible exact ⟨x0, x1⟩
          | with_reducible exact ⟨y0', y1'⟩
          | with_reducible exact ⟨x0a _, x1a _⟩
          | with_reducible exact ⟨y0a _, y1a _⟩
          | with_reducible exact ⟨cell_set_far (cell_set_far y0' hne1) hne1, cell_set_far (cell_set_far y1' hne1) hne1⟩
          | go_keep
          | fail)
        (first
          | (go_at_call 65; refine (NN.out _).mono ?_; rintro e w3 ⟨rfl, rfl⟩)
          | (go_at_call 52; refine (LB.out A5 c5 w6.drew O6.out.drew hb6).mono ?_; rintro e w7 ⟨A7, c7, rfl, ho7, on7', lo7⟩
             have on7 : Only (bl (.slice A5 gs1.length c5)) w6 w7 := ⟨on7'.os, on7'.tape, on7'.output, on7'.size, on7'.block⟩
             have nb0' : w.heap.size ∉ bl (.slice A5 gs1.length c5) := fun hm => (HL5.out _ hm).2.1 rfl
             have nb1' : w.heap.size + 1 ∉ bl (.slice A5 gs1.length c5) := fun hm => (HL5.out _ hm).2.2.1 rfl
             have nb2' : q10 ∉ bl (.slice A5 gs1.length c5) := fun hm => by have := (HL5.out _ hm).2.2.2; omega
             have k7 := Blk.only K6.out.1 on7 nb2'
             have kb7 := Blk.only K6.out.2.1 on7 nb0'
             have kr7 := Blk.only K6.out.2.2 on7 nb1'
             have y0' := k7.cell 0
             have y1' := k7.cell 1
             simp only [List.getElem?_cons_zero, List.getElem?_cons_succ] at y0' y1'
             have y0a := fun o => cell_below (below_alloc w7 o) k7.lt y0'
             have y1a := fun o => cell_below (below_alloc w7 o) k7.lt y1')
          | (go_at_call 52; refine (LB.out A5 c5 (w6.alloc _).drew (O6.out.alloc _).drew (hb6a _)).mono ?_; rintro e w7 ⟨A7, c7, rfl, ho7, on7', lo7⟩
             have on7 : Only (bl (.slice A5 gs1.length c5)) (w6.alloc (.cells #[.int .i64 0, .slice none 0 0] 29)) w7 := ⟨on7'.os, on7'.tape, on7'.output, on7'.size, on7'.block⟩
             have nb0' : w.heap.size ∉ bl (.slice A5 gs1.length c5) := fun hm => (HL5.out _ hm).2.1 rfl
             have nb1' : w.heap.size + 1 ∉ bl (.slice A5 gs1.length c5) := fun hm => (HL5.out _ hm).2.2.1 rfl
             have nb2' : q10 ∉ bl (.slice A5 gs1.length c5) := fun hm => by have := (HL5.out _ hm).2.2.2; omega
             have nb3' : w6.heap.size ∉ bl (.slice A5 gs1.length c5) := fun hm => by have := (HL5.out _ hm).2.2.2; omega
             have k7 := Blk.only (K6.out.1.alloc _) on7 nb2'
             have kb7 := Blk.only (K6.out.2.1.alloc _) on7 nb0'
             have kr7 := Blk.only (K6.out.2.2.alloc _) on7 nb1'
             have kz := Blk.only (ci_blk w6 _ _) on7 nb3'
             have y0' := k7.cell 0
             have y1' := k7.cell 1
             have t0 := kz.cell 0
             have t1 := kz.cell 1
             have f0 := kz.frozen 0
             have f1 := kz.frozen 1
             simp only [List.getElem?_cons_zero, List.getElem?_cons_succ] at y0' y1' t0 t1))
      all_goals
        have lo7' : ∀ x, (Value.slice A7 gs2.length c7).ownBlock = some x → x ∈ bl (.slice A5 gs1.length c5) ∨ w6.heap.size ≤ x := fun x hx => by
          rcases lo7 x (mem_bl.2 hx) with q | q
          · exact .inl q
          · exact .inr (by first | exact q | (have q2 : (w6.alloc (.cells #[.int .i64 0, .slice none 0 0] 29)).heap.size ≤ x := q; rw [World.size_alloc] at q2; omega))
        have hw6 : w.heap.size + 1 < w6.heap.size := by omega
        have N7 : (Value.slice A7 gs2.length c7).ownBlock ≠ some (w.heap.size + 1) := fun e => by
          rcases lo7' _ e with q | q
          · exact (HL5.out _ q).2.2.1 rfl
          · omega
        have LO7 := Lib.hid (show ∀ x ∈ bl (.slice A7 gs2.length c7), x ∈ bl (.slice A gs.length c) ∨ w.heap.size ≤ x from fun x hx => by
          rcases lo7' x (mem_bl.1 hx) with q | q
          · exact (HL5.out _ q).1
          · exact .inr (by omega))
        have HS7 := Lib.hid (show ∀ x ∈ bl (.slice A5 gs1.length c5), x ∈ bl (.slice A gs.length c) ∨ w.heap.size ≤ x from fun x hx => (HL5.out x hx).1)
        first
          | (have kz8 := ci_blk w7 #[.int .i64 m2, .slice A7 gs2.length c7] 29
             have kb8 := kb7.alloc (.cells #[.int .i64 m2, .slice A7 gs2.length c7] 29)
             have kr8 := kr7.alloc (.cells #[.int .i64 m2, .slice A7 gs2.length c7] 29)
             have o8 := ho7.alloc (.cells #[.int .i64 m2, .slice A7 gs2.length c7] 29)
             have on8 := (only_wider Q6.out (show Only (bl (.slice A5 gs1.length c5)) w6 w7 from on7) HS7.out).trans (Only.of_below (below_alloc w7 (.cells #[.int .i64 m2, .slice A7 gs2.length c7] 29)) _)
             have ne8 : w7.heap.size ≠ w.heap.size + 1 := by have := kr7.lt; omega
             generalize w7.alloc (.cells #[.int .i64 m2, .slice A7 gs2.length c7] 29) = w8 at kz8 kb8 kr8 o8 on8 ⊢
             generalize w7.heap.size = zb at kz8 ne8 ⊢)
          | (have ne8 : w6.heap.size ≠ w.heap.size + 1 := by omega
             have ne8b : w6.heap.size ≠ w.heap.size := by omega
             have ge8 : w.heap.size ≤ w6.heap.size := by omega
             have kz8 := (kz.set 0 (.int .i64 m2)).set 1 (.slice A7 gs2.length c7)
             have kr8 := blk_set_far (blk_set_far kr7 (p := ⟨w6.heap.size, 0, none⟩) (.int .i64 m2) (fun e => ne8 e.symm)) (p := ⟨w6.heap.size, 1, none⟩) (.slice A7 gs2.length c7) (fun e => ne8 e.symm)
             have kb8 := blk_set_far (blk_set_far kb7 (p := ⟨w6.heap.size, 0, none⟩) (.int .i64 m2) (fun e => ne8b e.symm)) (p := ⟨w6.heap.size, 1, none⟩) (.slice A7 gs2.length c7) (fun e => ne8b e.symm)
             have n7b : (Value.slice A7 gs2.length c7).ownBlock ≠ some w6.heap.size := fun e => by
               rcases lo7 _ (mem_bl.2 e) with q | q
               · have := (HL5.out _ q).2.2.2; omega
               · have q2 : (w6.alloc (.cells #[.int .i64 0, .slice none 0 0] 29)).heap.size ≤ w6.heap.size := q
                 rw [World.size_alloc] at q2; omega
             have o8 := own_away (own_away ho7 (p := ⟨w6.heap.size, 0, none⟩) (.int .i64 m2) n7b) (p := ⟨w6.heap.size, 1, none⟩) (.slice A7 gs2.length c7) n7b
             have on8 := only_set (only_set (only_wider (Q6.out.trans (Only.of_below (below_alloc w6 (.cells #[.int .i64 0, .slice none 0 0] 29)) _)) on7 HS7.out) (p := ⟨w6.heap.size, 0, none⟩) (.int .i64 m2) ge8) (p := ⟨w6.heap.size, 1, none⟩) (.slice A7 gs2.length c7) ge8
             generalize (w7.setCell ⟨w6.heap.size, 0, none⟩ (.int .i64 m2)).setCell ⟨w6.heap.size, 1, none⟩ (.slice A7 gs2.length c7) = w8 at kz8 kb8 kr8 o8 on8 ⊢
             generalize w6.heap.size = zb at kz8 ne8 ⊢)
        have v0 := kz8.cell 0
        have v1 := kz8.cell 1
        have c0 := kb8.cell 0
        have c1 := kb8.cell 1
        have h0 := kr8.frozen 0
        have h1 := kr8.frozen 1
        have r0' := kr8.cell 0
        have r1' := kr8.cell 1
        simp only [List.set_cons_zero, List.set_cons_succ, List.getElem?_cons_zero, List.getElem?_cons_succ] at v0 v1 c0 c1 r0' r1'
        have KR8 := Lib.hid kr8
        have O8 := Lib.hid o8
        have Q8 := Lib.hid on8
        have n7' := Lib.hid N7
        have hb8 : base ≤ w8.heap.size := Nat.le_trans hb on8.size
        go_wp2
        have K2 := (KR8.out.set 0 (.int .i64 m)).set 1 (.slice A gs.length c)
        generalize hW : (w8.setCell ⟨w.heap.size + 1, 0, none⟩ (.int .i64 m)).setCell ⟨w.heap.size + 1, 1, none⟩ (.slice A gs.length c) = wE at K2 ⊢
        have r0 := K2.cell 0
        have r1 := K2.cell 1
        simp only [List.set_cons_zero, List.set_cons_succ, List.getElem?_cons_zero, List.getElem?_cons_succ] at r0 r1
        refine bodyPost_ret (v := .tuple #[.agg #[.int .i64 m, .slice A gs.length c], .int .i64 (-1)]) (by simp [results, Try.results61, go_sem, r0, r1]) rfl ⟨m, A, _, c, rfl, fun hx => absurd hx (by show ¬ (0 : Int) ≤ -1; omega), ?_, fun x hx => .inl hx⟩
        rw [← hW]
        exact only_set (only_set Q8.out _ (Nat.le_succ _)) _ (Nat.le_succ _)
    · rw [if_neg he2]
      have LC := Lib.hid (fun A7 c7 W (o : W.ownsRow base 52 2 (.slice A7 gs2.length c7) gs2.length (fl gs2)) (hB : base ≤ W.heap.size) => l7Or_any ⟨m2, gs2⟩ A7 c7 e1 e2 base W o hB (by omega) (by omega) (by omega) (by omega) d2.1)
      generalize orB ⟨m2, gs2⟩ e1 e2 = R3 at *
      obtain ⟨⟨m3, gs3⟩, e3⟩ := R3
      dsimp only at *
      have LC := Lib.hid (show ∀ A7 c7 W, W.ownsRow base 52 2 (.slice A7 gs2.length c7) gs2.length (fl gs2) → base ≤ W.heap.size → Calls Try.prog 59 #[.agg #[.int .i64 m2, .slice A7 gs2.length c7], .int .i64 e1, .int .i64 e2] W (fun e w' => ∃ A9 c9, e = .returned (.tuple #[.agg #[.int .i64 m3, .slice A9 gs3.length c9], .int .i64 e3]) ∧ w'.ownsRow base 52 2 (.slice A9 gs3.length c9) gs3.length (fl gs3) ∧ Only (bl (.slice A7 gs2.length c7)) W w' ∧ ∀ x ∈ bl (.slice A9 gs3.length c9), x ∈ bl (.slice A7 gs2.length c7) ∨ W.heap.size ≤ x) from fun A7 c7 W o hB => LC.out A7 c7 W o hB)
      clear d1 d2
      go_enter Try.func61, Try.ntmps61
      go_wp2_with fail
      generalize ((w.alloc (.cells #[.int .i64 m, .slice A gs.length c] 29)).alloc (.cells #[.int .i64 0, .slice none 0 0] 29)) = w1 at BX B0 ⊢
      refine (LA.out _ B0).mono ?_
      rintro e w5 ⟨A5, c5, rfl, ho5, on5, lo5⟩
      have nb0 : w.heap.size ∉ bl (.slice A gs.length c) := fun hm => by have := HFP.out _ hm; omega
      have nb1 : w.heap.size + 1 ∉ bl (.slice A gs.length c) := fun hm => by have := HFP.out _ hm; omega
      have kb := Blk.only BX.out.2.1 on5 nb0
      have kr := Blk.only BX.out.2.2 on5 nb1
      have q5 : Only (bl (.slice A gs.length c)) w w5 := (Only.of_below B0 _).trans on5
      have z15 := on5.size
      have lw1 := BX.out.2.2.lt
      have L5 : ∀ x ∈ bl (.slice A5 gs1.length c5), (x ∈ bl (.slice A gs.length c) ∨ w.heap.size ≤ x) ∧ x ≠ w.heap.size ∧ x ≠ w.heap.size + 1 ∧ x < w5.heap.size := fun x hx => by
        have hl := (ho5.lt x (mem_bl.1 hx)).2
        rcases lo5 x hx with q | q
        · have := HFP.out _ q
          exact ⟨.inl q, by omega, by omega, hl⟩
        · exact ⟨.inr (by omega), by omega, by omega, hl⟩
      have lkr := kr.lt
      have x0 := kb.cell 0
      have x1 := kb.cell 1
      simp only [List.getElem?_cons_zero, List.getElem?_cons_succ] at x0 x1
      go_wp2
      have k10 := ci_blk w5 #[.int .i64 m1, .slice A5 gs1.length c5] 29
      have kb6 := kb.alloc (.cells #[.int .i64 m1, .slice A5 gs1.length c5] 29)
      have kr6 := kr.alloc (.cells #[.int .i64 m1, .slice A5 gs1.length c5] 29)
      have o6 := ho5.alloc (.cells #[.int .i64 m1, .slice A5 gs1.length c5] 29)
      have q6 := q5.trans (Only.of_below (below_alloc w5 (.cells #[.int .i64 m1, .slice A5 gs1.length c5] 29)) _)
      have z6 : w5.heap.size < (w5.alloc (.cells #[.int .i64 m1, .slice A5 gs1.length c5] 29)).heap.size := by rw [World.size_alloc]; omega
      clear x0 x1 kb kr ho5 on5 lo5 q5
      generalize w5.alloc (.cells #[.int .i64 m1, .slice A5 gs1.length c5] 29) = w6 at k10 kb6 kr6 o6 q6 z6 ⊢
      generalize hq10 : w5.heap.size = q10 at k10 L5 z6 lkr z15 ⊢
      have x0 := k10.cell 0
      have x1 := k10.cell 1
      simp only [List.getElem?_cons_zero, List.getElem?_cons_succ] at x0 x1
      have x0a : ∀ o, (w6.alloc o).drew.cell? ⟨q10, 0, none⟩ = some (.int .i64 m1) := fun o => show (w6.alloc o).cell? _ = _ from cell_below (below_alloc w6 o) z6 x0
      have x1a : ∀ o, (w6.alloc o).drew.cell? ⟨q10, 1, none⟩ = some (.slice A5 gs1.length c5) := fun o => show (w6.alloc o).cell? _ = _ from cell_below (below_alloc w6 o) z6 x1
      have hb6 : base ≤ w6.heap.size := Nat.le_trans hb q6.size
      have hb6a : ∀ o, base ≤ (w6.alloc o).drew.heap.size := fun o => by show base ≤ (w6.alloc o).heap.size; rw [World.size_alloc]; omega
      have O6 := Lib.hid o6
      have K6 := Lib.hid (⟨k10, kb6, kr6⟩ : Blk w6 _ _ _ ∧ Blk w6 _ _ _ ∧ Blk w6 _ _ _)
      have Q6 := Lib.hid q6
      have HL5 := Lib.hid L5
      have hne1 : q10 ≠ w6.heap.size := Nat.ne_of_lt z6
      clear o6 k10 kb6 kr6 q6 L5
      go_region_held3 (fun w' => w'.cell? ⟨q10, 0, none⟩ = some (.int .i64 m1) ∧ w'.cell? ⟨q10, 1, none⟩ = some (.slice A5 gs1.length c5))
        (first
          | with_reducible exact ⟨x0, x1⟩
          | with_reducible exact ⟨y0', y1'⟩
          | with_reducible exact ⟨x0a _, x1a _⟩
          | with_reducible exact ⟨y0a _, y1a _⟩
          | with_reducible exact ⟨cell_set_far (cell_set_far y0' hne1) hne1, cell_set_far (cell_set_far y1' hne1) hne1⟩
          | go_keep
          | fail)
        (first
          | (go_at_call 65; refine (NN.out _).mono ?_; rintro e w3 ⟨rfl, rfl⟩)
          | (go_at_call 52; refine (LB.out A5 c5 w6.drew O6.out.drew hb6).mono ?_; rintro e w7 ⟨A7, c7, rfl, ho7, on7', lo7⟩
             have on7 : Only (bl (.slice A5 gs1.length c5)) w6 w7 := ⟨on7'.os, on7'.tape, on7'.output, on7'.size, on7'.block⟩
             have nb0' : w.heap.size ∉ bl (.slice A5 gs1.length c5) := fun hm => (HL5.out _ hm).2.1 rfl
             have nb1' : w.heap.size + 1 ∉ bl (.slice A5 gs1.length c5) := fun hm => (HL5.out _ hm).2.2.1 rfl
             have nb2' : q10 ∉ bl (.slice A5 gs1.length c5) := fun hm => by have := (HL5.out _ hm).2.2.2; omega
             have k7 := Blk.only K6.out.1 on7 nb2'
             have kb7 := Blk.only K6.out.2.1 on7 nb0'
             have kr7 := Blk.only K6.out.2.2 on7 nb1'
             have y0' := k7.cell 0
             have y1' := k7.cell 1
             simp only [List.getElem?_cons_zero, List.getElem?_cons_succ] at y0' y1'
             have y0a := fun o => cell_below (below_alloc w7 o) k7.lt y0'
             have y1a := fun o => cell_below (below_alloc w7 o) k7.lt y1')
          | (go_at_call 52; refine (LB.out A5 c5 (w6.alloc _).drew (O6.out.alloc _).drew (hb6a _)).mono ?_; rintro e w7 ⟨A7, c7, rfl, ho7, on7', lo7⟩
             have on7 : Only (bl (.slice A5 gs1.length c5)) (w6.alloc (.cells #[.int .i64 0, .slice none 0 0] 29)) w7 := ⟨on7'.os, on7'.tape, on7'.output, on7'.size, on7'.block⟩
             have nb0' : w.heap.size ∉ bl (.slice A5 gs1.length c5) := fun hm => (HL5.out _ hm).2.1 rfl
             have nb1' : w.heap.size + 1 ∉ bl (.slice A5 gs1.length c5) := fun hm => (HL5.out _ hm).2.2.1 rfl
             have nb2' : q10 ∉ bl (.slice A5 gs1.length c5) := fun hm => by have := (HL5.out _ hm).2.2.2; omega
             have nb3' : w6.heap.size ∉ bl (.slice A5 gs1.length c5) := fun hm => by have := (HL5.out _ hm).2.2.2; omega
             have k7 := Blk.only (K6.out.1.alloc _) on7 nb2'
             have kb7 := Blk.only (K6.out.2.1.alloc _) on7 nb0'
             have kr7 := Blk.only (K6.out.2.2.alloc _) on7 nb1'
             have kz := Blk.only (ci_blk w6 _ _) on7 nb3'
             have y0' := k7.cell 0
             have y1' := k7.cell 1
             have t0 := kz.cell 0
             have t1 := kz.cell 1
             have f0 := kz.frozen 0
             have f1 := kz.frozen 1
             simp only [List.getElem?_cons_zero, List.getElem?_cons_succ] at y0' y1' t0 t1))
      all_goals
        have lo7' : ∀ x, (Value.slice A7 gs2.length c7).ownBlock = some x → x ∈ bl (.slice A5 gs1.length c5) ∨ w6.heap.size ≤ x := fun x hx => by
          rcases lo7 x (mem_bl.2 hx) with q | q
          · exact .inl q
          · exact .inr (by first | exact q | (have q2 : (w6.alloc (.cells #[.int .i64 0, .slice none 0 0] 29)).heap.size ≤ x := q; rw [World.size_alloc] at q2; omega))
        have hw6 : w.heap.size + 1 < w6.heap.size := by omega
        have N7 : (Value.slice A7 gs2.length c7).ownBlock ≠ some (w.heap.size + 1) := fun e => by
          rcases lo7' _ e with q | q
          · exact (HL5.out _ q).2.2.1 rfl
          · omega
        have LO7 := Lib.hid (show ∀ x ∈ bl (.slice A7 gs2.length c7), x ∈ bl (.slice A gs.length c) ∨ w.heap.size ≤ x from fun x hx => by
          rcases lo7' x (mem_bl.1 hx) with q | q
          · exact (HL5.out _ q).1
          · exact .inr (by omega))
        have HS7 := Lib.hid (show ∀ x ∈ bl (.slice A5 gs1.length c5), x ∈ bl (.slice A gs.length c) ∨ w.heap.size ≤ x from fun x hx => (HL5.out x hx).1)
        first
          | (have kz8 := ci_blk w7 #[.int .i64 m2, .slice A7 gs2.length c7] 29
             have kb8 := kb7.alloc (.cells #[.int .i64 m2, .slice A7 gs2.length c7] 29)
             have kr8 := kr7.alloc (.cells #[.int .i64 m2, .slice A7 gs2.length c7] 29)
             have o8 := ho7.alloc (.cells #[.int .i64 m2, .slice A7 gs2.length c7] 29)
             have on8 := (only_wider Q6.out (show Only (bl (.slice A5 gs1.length c5)) w6 w7 from on7) HS7.out).trans (Only.of_below (below_alloc w7 (.cells #[.int .i64 m2, .slice A7 gs2.length c7] 29)) _)
             have ne8 : w7.heap.size ≠ w.heap.size + 1 := by have := kr7.lt; omega
             generalize w7.alloc (.cells #[.int .i64 m2, .slice A7 gs2.length c7] 29) = w8 at kz8 kb8 kr8 o8 on8 ⊢
             generalize w7.heap.size = zb at kz8 ne8 ⊢)
          | (have ne8 : w6.heap.size ≠ w.heap.size + 1 := by omega
             have ne8b : w6.heap.size ≠ w.heap.size := by omega
             have ge8 : w.heap.size ≤ w6.heap.size := by omega
             have kz8 := (kz.set 0 (.int .i64 m2)).set 1 (.slice A7 gs2.length c7)
             have kr8 := blk_set_far (blk_set_far kr7 (p := ⟨w6.heap.size, 0, none⟩) (.int .i64 m2) (fun e => ne8 e.symm)) (p := ⟨w6.heap.size, 1, none⟩) (.slice A7 gs2.length c7) (fun e => ne8 e.symm)
             have kb8 := blk_set_far (blk_set_far kb7 (p := ⟨w6.heap.size, 0, none⟩) (.int .i64 m2) (fun e => ne8b e.symm)) (p := ⟨w6.heap.size, 1, none⟩) (.slice A7 gs2.length c7) (fun e => ne8b e.symm)
             have n7b : (Value.slice A7 gs2.length c7).ownBlock ≠ some w6.heap.size := fun e => by
               rcases lo7 _ (mem_bl.2 e) with q | q
               · have := (HL5.out _ q).2.2.2; omega
               · have q2 : (w6.alloc (.cells #[.int .i64 0, .slice none 0 0] 29)).heap.size ≤ w6.heap.size := q
                 rw [World.size_alloc] at q2; omega
             have o8 := own_away (own_away ho7 (p := ⟨w6.heap.size, 0, none⟩) (.int .i64 m2) n7b) (p := ⟨w6.heap.size, 1, none⟩) (.slice A7 gs2.length c7) n7b
             have on8 := only_set (only_set (only_wider (Q6.out.trans (Only.of_below (below_alloc w6 (.cells #[.int .i64 0, .slice none 0 0] 29)) _)) on7 HS7.out) (p := ⟨w6.heap.size, 0, none⟩) (.int .i64 m2) ge8) (p := ⟨w6.heap.size, 1, none⟩) (.slice A7 gs2.length c7) ge8
             generalize (w7.setCell ⟨w6.heap.size, 0, none⟩ (.int .i64 m2)).setCell ⟨w6.heap.size, 1, none⟩ (.slice A7 gs2.length c7) = w8 at kz8 kb8 kr8 o8 on8 ⊢
             generalize w6.heap.size = zb at kz8 ne8 ⊢)
        have v0 := kz8.cell 0
        have v1 := kz8.cell 1
        have c0 := kb8.cell 0
        have c1 := kb8.cell 1
        have h0 := kr8.frozen 0
        have h1 := kr8.frozen 1
        have r0' := kr8.cell 0
        have r1' := kr8.cell 1
        simp only [List.set_cons_zero, List.set_cons_succ, List.getElem?_cons_zero, List.getElem?_cons_succ] at v0 v1 c0 c1 r0' r1'
        have KR8 := Lib.hid kr8
        have O8 := Lib.hid o8
        have Q8 := Lib.hid on8
        have n7' := Lib.hid N7
        have hb8 : base ≤ w8.heap.size := Nat.le_trans hb on8.size
        go_wp2_with fail
        refine (LC.out A7 c7 w8 O8.out hb8).mono ?_
        rintro e w9 ⟨A9, c9, rfl, ho9, on9, lo9⟩
        have nbr : w.heap.size + 1 ∉ bl (.slice A7 gs2.length c7) := fun hm => n7'.out (mem_bl.1 hm)
        have kr9 := Blk.only KR8.out on9 nbr
        have l9 := KR8.out.lt
        have N9 : (Value.slice A9 gs3.length c9).ownBlock ≠ some (w.heap.size + 1) := fun e => by
          rcases lo9 _ (mem_bl.2 e) with q | q
          · exact nbr q
          · omega
        have o9 := own_away (own_away ho9 (p := ⟨w.heap.size + 1, 0, none⟩) (.int .i64 m3) N9) (p := ⟨w.heap.size + 1, 1, none⟩) (.slice A9 gs3.length c9) N9
        have q9 := only_set (only_set (only_wider Q8.out on9 LO7.out) (p := ⟨w.heap.size + 1, 0, none⟩) (.int .i64 m3) (Nat.le_succ _)) (p := ⟨w.heap.size + 1, 1, none⟩) (.slice A9 gs3.length c9) (Nat.le_succ _)
        have LO9 : ∀ x ∈ bl (.slice A9 gs3.length c9), x ∈ bl (.slice A gs.length c) ∨ w.heap.size ≤ x := fun x hx => by
          rcases lo9 x hx with q | q
          · exact LO7.out x q
          · exact .inr (by omega)
        have k0 := kr9.frozen 0
        have k1 := kr9.frozen 1
        have j0 := kr9.cell 0
        have j1 := kr9.cell 1
        simp only [List.getElem?_cons_zero, List.getElem?_cons_succ] at j0 j1
        have KR9 := Lib.hid kr9
        have P9 := Lib.hid (And.intro o9 (And.intro q9 LO9))
        clear ho9 on9 lo9 o9 q9 LO9 kr9
        go_wp2
        have K2 := (KR9.out.set 0 (.int .i64 m3)).set 1 (.slice A9 gs3.length c9)
        have r0 := K2.cell 0
        have r1 := K2.cell 1
        simp only [List.set_cons_zero, List.set_cons_succ, List.getElem?_cons_zero, List.getElem?_cons_succ] at r0 r1
        exact bodyPost_ret (v := .tuple #[.agg #[.int .i64 m3, .slice A9 gs3.length c9], .int .i64 e3]) (by simp [results, Try.results61, go_sem, r0, r1]) rfl ⟨m3, A9, _, c9, rfl, fun _ => ⟨rfl, rfl, P9.out.1⟩, P9.out.2.1, P9.out.2.2⟩
end Go.Proofs.Ytmimefcljdllcaa
