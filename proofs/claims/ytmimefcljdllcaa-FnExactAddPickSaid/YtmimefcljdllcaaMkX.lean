/- Circuits that are made: OR, picks and what is told, in the model. -/
import Derived.Test.YtmimefcljdllcaaMkW
namespace Go.Proofs.Ytmimefcljdllcaa
open Go.RowKit

/-- The call gives an edge, and if it is one, a circuit of its own; of what was there only the blocks fp have changed. -/
def GivesCW (base : Nat) (fp : List Nat) (w : World) (r : Ci × Int) (e : Ending) (w' : World) : Prop :=
  ∃ m A n c, e = .returned (.tuple #[.agg #[.int .i64 m, .slice A n c], .int .i64 r.2]) ∧ (0 ≤ r.2 → m = r.1.ins ∧ n = r.1.gates.length ∧ w'.ownsRow base 52 2 (.slice A n c) n (fl r.1.gates)) ∧ Only fp w w' ∧ ∀ x ∈ bl (.slice A n c), x ∈ fp ∨ w.heap.size ≤ x
theorem GivesCE.cw {base : Nat} {fp : List Nat} {w w' : World} {r : Ci × Int} {e : Ending} (h : GivesCE base fp w r e w') : GivesCW base fp w r e w' := by
  obtain ⟨A, c, rfl, ho, hb, hl⟩ := h
  exact ⟨_, A, _, c, rfl, fun _ => ⟨rfl, rfl, ho⟩, hb, hl⟩
theorem cell_set_far {w : World} {p q : Addr} {u v : Value} (h : w.cell? p = some v) (hne : p.block ≠ q.block) : (w.setCell q u).cell? p = some v := (World.cell?_of_block (setCell_heap w q u hne)).trans h
theorem notE_lo {e : Int} (h : -1 ≤ e) : -1 ≤ notE e ∧ (0 ≤ notE e ↔ 0 ≤ e) := by unfold notE; split <;> omega
theorem notE_hi {e : Int} (h : e < 2000) : notE e < 2000 := by unfold notE; split <;> omega

set_option maxRecDepth 100000 in
set_option maxHeartbeats 1000000 in
theorem l7Or_any (s : Ci) (A : Option Addr) (c : Nat) (a b : Int) (base : Nat) (w : World) (ho : w.ownsRow base 52 2 (.slice A s.gates.length c) s.gates.length (fl s.gates)) (hb : base ≤ w.heap.size) (a0 : 0 ≤ a) (a1 : a < 2000) (b0 : 0 ≤ b) (b1 : b < 2000)
    (h : Gd s) : Calls Try.prog 59 #[.agg #[.int .i64 s.ins, .slice A s.gates.length c], .int .i64 a, .int .i64 b] w (GivesCE base (bl (.slice A s.gates.length c)) w (orB s a b)) := by
  have NN := Lib.hid (fun x W (x0 : 0 ≤ x) (x1 : x < 2000) => l7Not_any x W (by omega) x1)
  have na := notE_lo (e := a) (by omega)
  have nb := notE_lo (e := b) (by omega)
  have na1 := notE_hi a1
  have nb1 := notE_hi b1
  have gd := andB_gd (a := notE a) (b := notE b) h (na.2.2 a0) na1 (nb.2.2 b0) nb1
  have LA := Lib.hid (fun W (B : Below w.heap.size w W) => l7And_any s A c (notE a) (notE b) base W (own_below ho B) (Nat.le_trans hb B.size) (na.2.2 a0) na1 (nb.2.2 b0) nb1 h)
  have NE := Lib.hid (fun W => l7Not_any (andB s (notE a) (notE b)).2 W gd.2.2.1 gd.2.2.2)
  unfold orB
  have NBk := Lib.hid (fun x (hx : w.heap.size ≤ x) (e : (Value.slice A s.gates.length c).ownBlock = some x) => show False from by have := (ho.lt x e).2; omega)
  generalize andB s (notE a) (notE b) = R at *
  obtain ⟨⟨rm, rg⟩, re⟩ := R
  obtain ⟨m, gs⟩ := s
  dsimp only at *
  clear na nb ho h gd
  have BX := Lib.hid (two_boxes w #[.int .i64 m, .slice A gs.length c] #[.int .i64 0, .slice none 0 0] 29 29 _ (Below.refl _ _))
  have B0 : Below w.heap.size w ((w.alloc (.cells #[.int .i64 m, .slice A gs.length c] 29)).alloc (.cells #[.int .i64 0, .slice none 0 0] 29)) := (below_alloc w _).alloc (by simp) _
  go_enter Try.func59, Try.ntmps59
  go_wp2
  generalize ((w.alloc (.cells #[.int .i64 m, .slice A gs.length c] 29)).alloc (.cells #[.int .i64 0, .slice none 0 0] 29)) = w1 at BX B0 ⊢
  have x0 := BX.out.2.1.cell 0
  have x1 := BX.out.2.1.cell 1
  simp only [List.getElem?_cons_zero, List.getElem?_cons_succ] at x0 x1
  have l1 := BX.out.2.1.lt
  have l2 := BX.out.2.2.lt
  have x0a : ∀ o, (w1.alloc o).drew.cell? ⟨w.heap.size, 0, none⟩ = some (.int .i64 m) := fun o => show (w1.alloc o).cell? _ = _ from cell_below (below_alloc w1 o) l1 x0
  have x1a : ∀ o, (w1.alloc o).drew.cell? ⟨w.heap.size, 1, none⟩ = some (.slice A gs.length c) := fun o => show (w1.alloc o).cell? _ = _ from cell_below (below_alloc w1 o) l1 x1
  have hne1 : w.heap.size ≠ w1.heap.size := Nat.ne_of_lt l1
  have Ba := Lib.hid (fun o => B0.trans ((below_alloc w1 o).mono B0.size))
  have B0' := Lib.hid B0
  have KX := Lib.hid BX.out
  clear BX B0
  go_region_held3 (fun w' => w'.cell? ⟨w.heap.size, 0, none⟩ = some (.int .i64 m) ∧ w'.cell? ⟨w.heap.size, 1, none⟩ = some (.slice A gs.length c))
    (first
      | with_reducible exact ⟨x0, x1⟩
      | with_reducible exact ⟨y0, y1⟩
      | with_reducible exact ⟨x0a _, x1a _⟩
      | with_reducible exact ⟨y0a _, y1a _⟩
      | with_reducible exact ⟨cell_set_far (cell_set_far y0 hne1) hne1, cell_set_far (cell_set_far y1 hne1) hne1⟩
      | go_keep
      | fail)
    (first
      | (go_at_call 65; refine (NN.out _ _ (by assumption) (by assumption)).mono ?_; rintro e w3 ⟨rfl, rfl⟩)
      | (go_at_call 52; refine (LA.out w1.drew B0'.out.drew).mono ?_; rintro e w5 ⟨A5, c5, rfl, ho5, on5', lo5⟩
         have on5 : Only (bl (.slice A gs.length c)) w1 w5 := ⟨on5'.os, on5'.tape, on5'.output, on5'.size, on5'.block⟩
         have nb0 : w.heap.size ∉ bl (.slice A gs.length c) := fun hm => NBk.out _ (Nat.le_refl _) (mem_bl.1 hm)
         have nb1' : w.heap.size + 1 ∉ bl (.slice A gs.length c) := fun hm => NBk.out _ (Nat.le_succ _) (mem_bl.1 hm)
         have kb := Blk.only KX.out.2.1 on5 nb0
         have kr := Blk.only KX.out.2.2 on5 nb1'
         have y0 := kb.cell 0
         have y1 := kb.cell 1
         simp only [List.getElem?_cons_zero, List.getElem?_cons_succ] at y0 y1
         have y0a := fun o => cell_below (below_alloc w5 o) kb.lt y0
         have y1a := fun o => cell_below (below_alloc w5 o) kb.lt y1)
      | (go_at_call 52; refine (LA.out (w1.alloc _).drew (Ba.out _).drew).mono ?_; rintro e w5 ⟨A5, c5, rfl, ho5, on5', lo5⟩
         have on5 : Only (bl (.slice A gs.length c)) (w1.alloc (.cells #[.int .i64 0, .slice none 0 0] 29)) w5 := ⟨on5'.os, on5'.tape, on5'.output, on5'.size, on5'.block⟩
         have nb0 : w.heap.size ∉ bl (.slice A gs.length c) := fun hm => NBk.out _ (Nat.le_refl _) (mem_bl.1 hm)
         have nb1' : w.heap.size + 1 ∉ bl (.slice A gs.length c) := fun hm => NBk.out _ (Nat.le_succ _) (mem_bl.1 hm)
         have nb2 : w1.heap.size ∉ bl (.slice A gs.length c) := fun hm => NBk.out _ B0'.out.size (mem_bl.1 hm)
         have kb := Blk.only (KX.out.2.1.alloc _) on5 nb0
         have kr := Blk.only (KX.out.2.2.alloc _) on5 nb1'
         have kz := Blk.only (ci_blk w1 _ _) on5 nb2
         have y0 := kb.cell 0
         have y1 := kb.cell 1
         have z0 := kz.cell 0
         have z1 := kz.cell 1
         have f0 := kz.frozen 0
         have f1 := kz.frozen 1
         simp only [List.getElem?_cons_zero, List.getElem?_cons_succ] at y0 y1 z0 z1))
  all_goals
    have hfp : ∀ x, x ∈ bl (.slice A gs.length c) → x < w.heap.size := fun x hx => Nat.lt_of_not_le fun hle => NBk.out x hle (mem_bl.1 hx)
    have lo5' : ∀ x, (Value.slice A5 rg.length c5).ownBlock = some x → x < w.heap.size ∨ w1.heap.size ≤ x := fun x hx => by
      rcases lo5 x (mem_bl.2 hx) with q | q
      · exact .inl (hfp x q)
      · exact .inr (by first | exact q | (have q2 : (w1.alloc (.cells #[.int .i64 0, .slice none 0 0] 29)).heap.size ≤ x := q; rw [World.size_alloc] at q2; omega))
    have N5 : (Value.slice A5 rg.length c5).ownBlock ≠ some (w.heap.size + 1) := fun e => by
      rcases lo5' _ e with q | q <;> omega
    have LO := Lib.hid (show ∀ x ∈ bl (.slice A5 rg.length c5), x ∈ bl (.slice A gs.length c) ∨ w.heap.size ≤ x from fun x hx => by
      rcases lo5 x hx with q | q
      · exact .inl q
      · rcases lo5' x (mem_bl.1 hx) with q2 | q2
        · by_cases q3 : x ∈ bl (.slice A gs.length c)
          · exact .inl q3
          · exact absurd q2 (by
              intro q4
              have q5 := B0'.out.size
              first
                | (have q6 : w1.heap.size ≤ x := q; omega)
                | (have q6 : (w1.alloc (.cells #[.int .i64 0, .slice none 0 0] 29)).heap.size ≤ x := q; rw [World.size_alloc] at q6; omega))
        · exact .inr (Nat.le_trans B0'.out.size q2))
    first
      | (have kz8 := ci_blk w5 #[.int .i64 rm, .slice A5 rg.length c5] 29
         have kr8 := kr.alloc (.cells #[.int .i64 rm, .slice A5 rg.length c5] 29)
         have o8 := ho5.alloc (.cells #[.int .i64 rm, .slice A5 rg.length c5] 29)
         have on8 := ((Only.of_below B0'.out _).trans (show Only (bl (.slice A gs.length c)) w1 w5 from on5)).trans (Only.of_below (below_alloc w5 (.cells #[.int .i64 rm, .slice A5 rg.length c5] 29)) _)
         have ne8 : w5.heap.size ≠ w.heap.size + 1 := by have := kr.lt; omega
         have ge8 : w.heap.size ≤ w5.heap.size := by have := kr.lt; omega
         generalize w5.alloc (.cells #[.int .i64 rm, .slice A5 rg.length c5] 29) = w8 at kz8 kr8 o8 on8 ⊢
         generalize w5.heap.size = zb at kz8 ne8 ge8 ⊢)
      | (have ne8 : w1.heap.size ≠ w.heap.size + 1 := by omega
         have ge8 : w.heap.size ≤ w1.heap.size := by omega
         have kz8 := (kz.set 0 (.int .i64 rm)).set 1 (.slice A5 rg.length c5)
         have kr8 : Blk ((w5.setCell ⟨w1.heap.size, 0, none⟩ (.int .i64 rm)).setCell ⟨w1.heap.size, 1, none⟩ (.slice A5 rg.length c5)) (w.heap.size + 1) _ _ := (setCell_heap _ _ _ (fun e => ne8 e.symm)).trans ((setCell_heap _ _ _ (fun e => ne8 e.symm)).trans kr)
         have n5b : (Value.slice A5 rg.length c5).ownBlock ≠ some w1.heap.size := fun e => by
           rcases lo5 _ (mem_bl.2 e) with q | q
           · have := hfp _ q; omega
           · have q2 : (w1.alloc (.cells #[.int .i64 0, .slice none 0 0] 29)).heap.size ≤ w1.heap.size := q
             rw [World.size_alloc] at q2; omega
         have o8 := own_away (own_away ho5 (p := ⟨w1.heap.size, 0, none⟩) (.int .i64 rm) n5b) (p := ⟨w1.heap.size, 1, none⟩) (.slice A5 rg.length c5) n5b
         have on8 := only_set (only_set (((Only.of_below B0'.out _).trans (Only.of_below (below_alloc w1 _) _)).trans on5) (p := ⟨w1.heap.size, 0, none⟩) (.int .i64 rm) ge8) (p := ⟨w1.heap.size, 1, none⟩) (.slice A5 rg.length c5) ge8
         generalize (w5.setCell ⟨w1.heap.size, 0, none⟩ (.int .i64 rm)).setCell ⟨w1.heap.size, 1, none⟩ (.slice A5 rg.length c5) = w8 at kz8 kr8 o8 on8 ⊢
         generalize w1.heap.size = zb at kz8 ne8 ge8 ⊢)
    have z0 := kz8.cell 0
    have z1 := kz8.cell 1
    have f0 := kr8.frozen 0
    have f1 := kr8.frozen 1
    have r0 := kr8.cell 0
    have r1 := kr8.cell 1
    simp only [List.set_cons_zero, List.set_cons_succ, List.getElem?_cons_zero, List.getElem?_cons_succ] at z0 z1 r0 r1
    have zz0 : ((w8.setCell ⟨w.heap.size + 1, 0, none⟩ (.int .i64 rm)).setCell ⟨w.heap.size + 1, 1, none⟩ (.slice A5 rg.length c5)).cell? ⟨zb, 0, none⟩ = some (.int .i64 rm) := cell_set_far (cell_set_far z0 ne8) ne8
    have zz1 : ((w8.setCell ⟨w.heap.size + 1, 0, none⟩ (.int .i64 rm)).setCell ⟨w.heap.size + 1, 1, none⟩ (.slice A5 rg.length c5)).cell? ⟨zb, 1, none⟩ = some (.slice A5 rg.length c5) := cell_set_far (cell_set_far z1 ne8) ne8
    have zd0 : ((w8.setCell ⟨w.heap.size + 1, 0, none⟩ (.int .i64 rm)).setCell ⟨w.heap.size + 1, 1, none⟩ (.slice A5 rg.length c5)).drew.cell? ⟨zb, 0, none⟩ = some (.int .i64 rm) := zz0
    have zd1 : ((w8.setCell ⟨w.heap.size + 1, 0, none⟩ (.int .i64 rm)).setCell ⟨w.heap.size + 1, 1, none⟩ (.slice A5 rg.length c5)).drew.cell? ⟨zb, 1, none⟩ = some (.slice A5 rg.length c5) := zz1
    have ZZ := Lib.hid (⟨zz0, zz1⟩ : _ ∧ _)
    have ZD := Lib.hid (⟨zd0, zd1⟩ : _ ∧ _)
    have K8 := Lib.hid kr8
    have O8 := Lib.hid o8
    have Q8 := Lib.hid on8
    have n5' := Lib.hid N5
    go_wp2
    go_region_held3 (fun w' => w'.cell? ⟨zb, 0, none⟩ = some (.int .i64 rm) ∧ w'.cell? ⟨zb, 1, none⟩ = some (.slice A5 rg.length c5))
      (first | with_reducible exact ⟨zz0, zz1⟩ | with_reducible exact ⟨zd0, zd1⟩ | go_keep | fail)
      (first
        | (go_at_call 65; refine (NE.out _).mono ?_; rintro e w9 ⟨rfl, rfl⟩))
    all_goals
      go_wp2
      have K2 := (K8.out.set 0 (.int .i64 rm)).set 1 (.slice A5 rg.length c5)
      have c0 := K2.cell 0
      have c1 := K2.cell 1
      simp only [List.set_cons_zero, List.set_cons_succ, List.getElem?_cons_zero, List.getElem?_cons_succ] at c0 c1
      have o9 := own_away (own_away O8.out (p := ⟨w.heap.size + 1, 0, none⟩) (.int .i64 rm) n5'.out) (p := ⟨w.heap.size + 1, 1, none⟩) (.slice A5 rg.length c5) n5'.out
      have on9 := only_set (only_set Q8.out (p := ⟨w.heap.size + 1, 0, none⟩) (.int .i64 rm) (Nat.le_succ _)) (p := ⟨w.heap.size + 1, 1, none⟩) (.slice A5 rg.length c5) (Nat.le_succ _)
      refine bodyPost_ret (v := .tuple #[.agg #[.int .i64 rm, .slice A5 rg.length c5], .int .i64 (notE re)]) ?_ rfl ⟨A5, c5, rfl, ?_, ?_, LO.out⟩
      · first
          | (simp [results, Try.results59, go_sem, c0, c1]; done)
          | (have e0 : ((w8.setCell ⟨w.heap.size + 1, 0, none⟩ (.int .i64 rm)).setCell ⟨w.heap.size + 1, 1, none⟩ (.slice A5 rg.length c5)).drew.cell? ⟨w.heap.size + 1, 0, none⟩ = _ := c0
             have e1 : ((w8.setCell ⟨w.heap.size + 1, 0, none⟩ (.int .i64 rm)).setCell ⟨w.heap.size + 1, 1, none⟩ (.slice A5 rg.length c5)).drew.cell? ⟨w.heap.size + 1, 1, none⟩ = _ := c1
             simp [results, Try.results59, go_sem, e0, e1]; done)
      · first | exact o9 | exact own_of_heap o9 rfl
      · first | exact on9 | exact ⟨on9.os, on9.tape, on9.output, on9.size, on9.block⟩
end Go.Proofs.Ytmimefcljdllcaa
