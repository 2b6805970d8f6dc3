/- Diagrams: copies and forks that are added, in the model. -/
import Derived.Test.YtnhjcokmajejcaaDoorDgT
namespace Go.Proofs.YtnhjcokmajejcaaDoor
open Go.RowKit
set_option maxRecDepth 100000

theorem only_setD {fp : List Nat} {w w' : World} (h : Only fp w w') {p : Addr} (u : Value) (hp : w.heap.size ≤ p.block) : Only fp w (w'.setCell p u) :=
  ⟨h.os, h.tape, h.output, by rw [World.size_setCell]; exact h.size, fun k hk hn => (setCell_heap _ _ _ (by omega)).trans (h.block k hk hn)⟩
/-- The call gives a diagram of its own and a place, or none; of what was there only the blocks fp have changed. -/
def GivesDE (base : Nat) (fp : List Nat) (v : Value) (k : Nat) (w : World) (r : Dg × Int) (e : Ending) (w' : World) : Prop :=
  Only fp w w' ∧ KeptD w w' v k ∧ ((r.2 < 0 ∧ ∃ m A n c, e = .returned (.tuple #[.agg #[.int .i64 m, .slice A n c], .int .i64 (-1)])) ∨
    (0 ≤ r.2 ∧ ∃ A c, e = .returned (.tuple #[.agg #[.int .i64 r.1.vars, .slice A r.1.forks.length c], .int .i64 r.2]) ∧ w'.ownsRow base 108 3 (.slice A r.1.forks.length c) r.1.forks.length (fl r.1.forks) ∧ ∀ x ∈ bl (.slice A r.1.forks.length c), x ∈ fp ∨ w.heap.size ≤ x))
theorem gives_de_no {base : Nat} {fp : List Nat} {v : Value} {k : Nat} {w w' : World} {r : Dg × Int} (o : Only fp w w') (kd : KeptD w w' v k) (h : r.2 < 0) (m : Int) (A : Option Addr) (n c : Nat) : GivesDE base fp v k w r (.returned (.tuple #[.agg #[.int .i64 m, .slice A n c], .int .i64 (-1)])) w' := ⟨o, kd, .inl ⟨h, m, A, n, c, rfl⟩⟩
theorem l8Add_neg (m : Int) (A : Option Addr) (n c : Nat) (f : Fk) (w : World) (h : f.lo < 0 ∨ f.hi < 0) :
    Calls Tryd.prog 70 #[.agg #[.int .i64 m, .slice A n c], .int .i64 f.v, .int .i64 f.lo, .int .i64 f.hi] w (fun e w' => e = .returned (.tuple #[.agg #[.int .i64 m, .slice A n c], .int .i64 (-1)]) ∧ Below w.heap.size w w') := by
  obtain ⟨x, y, z⟩ := f
  dsimp only at *
  by_cases h1 : y < 0
  · go_enter Tryd.func70, Tryd.ntmps70
    go_wp2
    exact bodyPost_ret (v := .tuple #[.agg #[.int .i64 m, .slice A n c], .int .i64 (-1)]) (by simp [results, Tryd.results70, go_sem]) rfl ⟨rfl, ((Below.refl _ w).alloc (Nat.le_refl _) _).alloc (by simp) _⟩
  · have h2 : z < 0 := by omega
    go_enter Tryd.func70, Tryd.ntmps70
    go_wp2
    exact bodyPost_ret (v := .tuple #[.agg #[.int .i64 m, .slice A n c], .int .i64 (-1)]) (by simp [results, Tryd.results70, go_sem]) rfl ⟨rfl, ((Below.refl _ w).alloc (Nat.le_refl _) _).alloc (by simp) _⟩

set_option maxRecDepth 100000 in
set_option maxHeartbeats 4000000 in
theorem l8Add_any (d : Dg) (A : Option Addr) (c : Nat) (f : Fk) (base : Nat) (w : World) (ho : w.ownsRow base 108 3 (.slice A d.forks.length c) d.forks.length (fl d.forks)) (hb : base ≤ w.heap.size) (hn : d.forks.length ≤ 2000) (l0 : 0 ≤ f.lo) (h0 : 0 ≤ f.hi) :
    Calls Tryd.prog 70 #[.agg #[.int .i64 d.vars, .slice A d.forks.length c], .int .i64 f.v, .int .i64 f.lo, .int .i64 f.hi] w (GivesDE base (bl (.slice A d.forks.length c)) (.slice A d.forks.length c) d.forks.length w (adF d f)) := by
  by_cases e : f.lo = f.hi
  · have hE : adF d f = (d, f.lo) := by unfold adF; rw [if_neg (by omega), if_pos e]
    rw [hE]
    have g1 : (f.lo == f.hi) = true := by simp [e]
    have HO := Lib.hid (fun W (B : Below w.heap.size w W) => own_below ho B)
    obtain ⟨v, fs⟩ := d
    obtain ⟨x, y, z⟩ := f
    dsimp only at *
    clear hE ho
    subst e
    have n1 : ¬ y < 0 := by omega
    go_enter Tryd.func70, Tryd.ntmps70
    go_wp2
    have BB := ((Below.refl _ w).alloc (Nat.le_refl _) (.cells #[.int .i64 v, .slice A fs.length c] 35)).alloc (by simp) (.cells #[.int .i64 v, .slice A fs.length c] 35)
    exact bodyPost_ret (v := .tuple #[.agg #[.int .i64 v, .slice A fs.length c], .int .i64 y]) (by simp [results, Tryd.results70, go_sem]) rfl ⟨Only.of_below BB _, KeptD.of_below BB _ _, .inr ⟨l0, A, c, rfl, HO.out _ BB, fun x hx => .inl hx⟩⟩
  · have g1 : (f.lo == f.hi) = false := by simp [e]
    have n1 : ¬ f.lo < 0 := by omega
    have n2 : ¬ f.hi < 0 := by omega
    have HS : Hid (∀ i, fkB d.forks f = some i → adF d f = (d, (i : Int) + 2)) := Lib.hid (fun i q => by unfold adF; rw [if_neg (by omega), if_neg e, q])
    have HN : Hid (fkB d.forks f = none → 2000 ≤ d.forks.length → adF d f = (d, -1)) := Lib.hid (fun q h => by unfold adF; rw [if_neg (by omega), if_neg e, q]; exact if_pos h)
    have HY : Hid (fkB d.forks f = none → ¬ 2000 ≤ d.forks.length → adF d f = (⟨d.vars, d.forks ++ [f]⟩, (d.forks.length : Int) + 2)) := Lib.hid (fun q h => by unfold adF; rw [if_neg (by omega), if_neg e, q]; exact if_neg h)
    have HF : Hid (∀ k, k < d.forks.length → (∀ j, j < k → el d.forks j ≠ f) → el d.forks k = f → fkB d.forks f = some k) := Lib.hid (fun k hk q r => fkTo_hit q r hk)
    have HF0 : Hid ((∀ j, j < d.forks.length → el d.forks j ≠ f) → fkB d.forks f = none) := Lib.hid (fun q => fkTo_none q)
    have BX := Lib.hid (three_boxes w #[.int .i64 d.vars, .slice A d.forks.length c] #[.int .i64 0, .slice none 0 0] #[.int .i64 f.v, .int .i64 f.lo, .int .i64 f.hi] 35 35 108)
    have HR := rd_forks ho rfl (by omega)
    have HO := Lib.hid (fun W (B : Below w.heap.size w W) => own_below ho B)
    have NB := Lib.hid (fun x (hx : w.heap.size ≤ x) (e : (Value.slice A d.forks.length c).ownBlock = some x) => show False from by have := (ho.lt x e).2; omega)
    have HB := Lib.hid (fun x (e : (Value.slice A d.forks.length c).ownBlock = some x) => (ho.lt x e).1)
    generalize adF d f = R at *
    generalize fkB d.forks f = FB at *
    obtain ⟨v, fs⟩ := d
    obtain ⟨x, y, z⟩ := f
    dsimp only [Fk.u] at *
    clear ho e
    go_enter Tryd.func70, Tryd.ntmps70
    go_wp2_with fail
    go_loopg [11] fs.length (fun r i wr => ∃ k : Nat, k + r = fs.length ∧ i = .int .i64 k ∧ Hid (∀ j, j < k → el fs j ≠ ⟨x, y, z⟩) ∧ Below (((w.alloc (.cells #[.int .i64 v, .slice A fs.length c] 35)).alloc (.cells #[.int .i64 0, .slice none 0 0] 35)).alloc (.cells #[.int .i64 x, .int .i64 y, .int .i64 z] 108)).heap.size (((w.alloc (.cells #[.int .i64 v, .slice A fs.length c] 35)).alloc (.cells #[.int .i64 0, .slice none 0 0] 35)).alloc (.cells #[.int .i64 x, .int .i64 y, .int .i64 z] 108)) wr)
    case atStart => exact ⟨0, by omega, rfl, Lib.hid (fun j hj => absurd hj (by omega)), Below.refl _ _⟩
    case round =>
      obtain ⟨k, hk, rfl, HD, hb5⟩ := hrel
      obtain ⟨B5, k0, k1, k2⟩ := BX.out _ hb5
      have x0 := k0.cell 0
      have x1 := k0.cell 1
      have z0 := k1.cell 0
      have z1 := k1.cell 1
      have fz0 := k1.frozen 0
      have fz1 := k1.frozen 1
      have y0 := k2.cell 0
      have y1 := k2.cell 1
      have y2 := k2.cell 2
      have s0 := k0.lt
      have s1 := k1.lt
      have s2 := k2.lt
      simp only [List.getElem?_cons_zero, List.getElem?_cons_succ] at x0 x1 z0 z1 y0 y1 y2
      by_cases hlt : k < fs.length
      · obtain ⟨ad, rfl, hbl, d0, d1, d2⟩ := fk_at (Mem.rd_below HR B5) hlt
        have hbl' : (ad.add (k * 3)).block < wr.heap.size := by rw [add_block]; have := B5.size; omega
        have kn : (k : Int) < fs.length := by omega
        have HD2 : Hid (el fs k ≠ ⟨x, y, z⟩ → ∀ j, j < k + 1 → el fs j ≠ ⟨x, y, z⟩) := Lib.hid (fun q j hj => by
          by_cases e : j = k
          · subst e; exact q
          · exact HD.out j (by omega))
        have HFK := Lib.hid (HF.out k hlt HD.out)
        generalize el fs k = T at *
        by_cases eq : T = ⟨x, y, z⟩
        · have HRE := Lib.hid (HS.out k (HFK.out eq))
          subst eq
          have EQ := fun W => fk_eq_yes ⟨x, y, z⟩ W
          have K1 := Lib.hid k1
          have HO5 := Lib.hid (HO.out _ B5)
          dsimp only at *
          clear k1
          go_wp2
          go_quiet (fail)
          go_wp2
          have BZ : Below w.heap.size w (wr.drewN nq) := ⟨B5.os, B5.tape, B5.output, B5.size, B5.block⟩
          have K2 := ((blk_of_heap (w' := wr.drewN nq) K1.out rfl).set 0 (.int .i64 v)).set 1 (.slice (some ad) fs.length c)
          have o8 := own_away (own_away (own_of_heap (w' := wr.drewN nq) HO5.out rfl) (p := ⟨w.heap.size + 1, 0, none⟩) (.int .i64 v) (fun e => NB.out _ (Nat.le_succ _) e)) (p := ⟨w.heap.size + 1, 1, none⟩) (.slice (some ad) fs.length c) (fun e => NB.out _ (Nat.le_succ _) e)
          have q8 := only_setD (only_setD (Only.of_below BZ (bl (.slice (some ad) fs.length c))) (p := ⟨w.heap.size + 1, 0, none⟩) (.int .i64 v) (Nat.le_succ _)) (p := ⟨w.heap.size + 1, 1, none⟩) (.slice (some ad) fs.length c) (Nat.le_succ _)
          have kd8 := ((KeptD.of_below BZ (.slice (some ad) fs.length c) fs.length).set (p := ⟨w.heap.size + 1, 0, none⟩) (.int .i64 v) (Nat.le_succ _)).set (p := ⟨w.heap.size + 1, 1, none⟩) (.slice (some ad) fs.length c) (Nat.le_succ _)
          generalize ((wr.drewN nq).setCell ⟨w.heap.size + 1, 0, none⟩ (.int .i64 v)).setCell ⟨w.heap.size + 1, 1, none⟩ (.slice (some ad) fs.length c) = w8 at K2 o8 q8 kd8 ⊢
          have r0 := K2.cell 0
          have r1 := K2.cell 1
          simp only [List.set_cons_zero, List.set_cons_succ, List.getElem?_cons_zero, List.getElem?_cons_succ] at r0 r1
          exact bodyPost_ret (v := .tuple #[.agg #[.int .i64 v, .slice (some ad) fs.length c], .int .i64 (k + 2)]) (by simp [results, Tryd.results70, go_sem, r0, r1]) rfl (by rw [HRE.out]; exact ⟨q8, kd8, .inr ⟨by show (0 : Int) ≤ k + 2; omega, some ad, c, rfl, o8, fun x hx => .inl hx⟩⟩)
        · have EQ := fun W => fk_eq_no eq W
          have HD4 := Lib.hid (HD2.out eq)
          obtain ⟨ta, tb, tc⟩ := T
          dsimp only at *
          clear eq
          go_wp2
          go_quiet (fail)
          go_wp2
          go_roundg (fs.length - (k + 1))
          case measure => omega
          case rel => exact ⟨k + 1, by omega, by go_num, HD4, ⟨hb5.os, hb5.tape, hb5.output, hb5.size, hb5.block⟩⟩
      · obtain rfl : k = fs.length := by omega
        have HNO := Lib.hid (HF0.out HD.out)
        have K1 := Lib.hid k1
        have HO5 := Lib.hid (HO.out _ B5)
        by_cases hl : 2000 ≤ fs.length
        · have HRE := Lib.hid (HN.out HNO.out hl)
          have hl2 : (2000 : Int) ≤ fs.length := by omega
          clear k1 hl
          go_wp2
          have K2 := (K1.out.set 0 (.int .i64 v)).set 1 (.slice A fs.length c)
          have q8 := only_setD (only_setD (Only.of_below B5 (bl (.slice A fs.length c))) (p := ⟨w.heap.size + 1, 0, none⟩) (.int .i64 v) (Nat.le_succ _)) (p := ⟨w.heap.size + 1, 1, none⟩) (.slice A fs.length c) (Nat.le_succ _)
          have kd8 := ((KeptD.of_below B5 (.slice A fs.length c) fs.length).set (p := ⟨w.heap.size + 1, 0, none⟩) (.int .i64 v) (Nat.le_succ _)).set (p := ⟨w.heap.size + 1, 1, none⟩) (.slice A fs.length c) (Nat.le_succ _)
          generalize (wr.setCell ⟨w.heap.size + 1, 0, none⟩ (.int .i64 v)).setCell ⟨w.heap.size + 1, 1, none⟩ (.slice A fs.length c) = w8 at K2 q8 kd8 ⊢
          have r0 := K2.cell 0
          have r1 := K2.cell 1
          simp only [List.set_cons_zero, List.set_cons_succ, List.getElem?_cons_zero, List.getElem?_cons_succ] at r0 r1
          exact bodyPost_ret (v := .tuple #[.agg #[.int .i64 v, .slice A fs.length c], .int .i64 (-1)]) (by simp [results, Tryd.results70, go_sem, r0, r1]) rfl (by rw [HRE.out]; exact gives_de_no q8 kd8 (by show (-1 : Int) < 0; decide) _ _ _ _)
        · have HRE := Lib.hid (HY.out HNO.out hl)
          have hl2 : (fs.length : Int) < 2000 := by omega
          have K0 := Lib.hid k0
          have K2 := Lib.hid k2
          have f0 := k0.frozen 1
          clear k1 hl
          go_wp2_with (first | (at_builtin; refine app_fk_at rfl _ _ rfl base _ fs.length fs ⟨x, y, z⟩ wr.heap.size rfl (HO5.out.alloc _) rfl (ci_blk wr _ _) (by omega) (by rw [World.size_alloc]; have := B5.size; omega) ?_; intro A6 c6 w6 ho6 hg6 hl6 kd6
                                have k06 := blk_grown (K0.out.alloc _) hg6 (fun e => NB.out _ (Nat.le_refl _) e)
                                have k16 := blk_grown (K1.out.alloc _) hg6 (fun e => NB.out _ (Nat.le_succ _) e)
                                have f06 := k06.frozen 1
                                have x06 := k06.cell 1
                                simp only [List.getElem?_cons_zero, List.getElem?_cons_succ] at x06))
          have zz := B5.size
          have n6 : ∀ x, w.heap.size ≤ x → x ≤ w.heap.size + 1 → (Value.slice A6 (fs.length + 1) c6).ownBlock ≠ some x := fun x hx hx' e => by
            rcases hl6 with q | q
            · rw [q] at e; exact NB.out x hx e
            · rw [q, World.size_alloc] at e
              injection e with e
              have := hb5.size
              simp only [World.size_alloc] at this
              omega
          have q6 : Only (bl (.slice A fs.length c)) w w6 := ((Only.of_below B5 _).trans (Only.of_below (below_alloc wr _) _)).trans (Only.of_grown hg6 fun g e => mem_bl.2 e)
          have kd7 := (((KeptD.of_below B5 (.slice A fs.length c) fs.length).below (below_alloc wr (.cells #[.int .i64 x, .int .i64 y, .int .i64 z] 108)) B5.size).trans kd6 (by rw [World.size_alloc]; have := B5.size; omega) (Nat.le_refl _) (fun x e => .inl e)).set (p := ⟨w.heap.size, 1, none⟩) (.slice A6 (fs.length + 1) c6) (Nat.le_refl _)
          have L6 : Hid (∀ x ∈ bl (.slice A6 (fs.length + 1) c6), x ∈ bl (.slice A fs.length c) ∨ w.heap.size ≤ x) := Lib.hid (fun x hx => by
            have hx := mem_bl.1 hx
            rcases hl6 with q | q
            · rw [q] at hx; exact .inl (mem_bl.2 hx)
            · rw [q, World.size_alloc] at hx; injection hx with hx; exact .inr (by omega))
          have k07 := k06.set 1 (.slice A6 (fs.length + 1) c6)
          have k17 : Blk (w6.setCell ⟨w.heap.size, 1, none⟩ (.slice A6 (fs.length + 1) c6)) (w.heap.size + 1) _ _ := (setCell_heap _ _ _ (by show w.heap.size + 1 ≠ w.heap.size; omega)).trans k16
          have o7 := own_away ho6 (p := ⟨w.heap.size, 1, none⟩) (.slice A6 (fs.length + 1) c6) (n6 _ (Nat.le_refl _) (Nat.le_succ _))
          have q7 := only_setD q6 (p := ⟨w.heap.size, 1, none⟩) (.slice A6 (fs.length + 1) c6) (Nat.le_refl _)
          clear k06 k16 f06 x06 x0 x1 z0 z1 fz0 fz1
          generalize w6.setCell ⟨w.heap.size, 1, none⟩ (.slice A6 (fs.length + 1) c6) = w7 at k07 k17 o7 q7 kd7 ⊢
          have x0 := k07.cell 0
          have x1 := k07.cell 1
          have z0 := k17.cell 0
          have z1 := k17.cell 1
          have fz0 := k17.frozen 0
          have fz1 := k17.frozen 1
          simp only [List.set_cons_zero, List.set_cons_succ, List.getElem?_cons_zero, List.getElem?_cons_succ] at x0 x1 z0 z1
          have K17 := Lib.hid k17
          have O7 := Lib.hid o7
          have N6 := Lib.hid n6
          have s7 := k07.lt
          have s17 := k17.lt
          have KD7 := Lib.hid kd7
          clear k17 k07 o7 n6 hl6 kd7 kd6
          go_wp2
          go_region_law (fail)
          all_goals
            go_wp2
            have K2 := (K17.out.set 0 (.int .i64 v)).set 1 (.slice A6 (fs.length + 1) c6)
            have o8 := own_away (own_away O7.out (p := ⟨w.heap.size + 1, 0, none⟩) (.int .i64 v) (N6.out _ (Nat.le_succ _) (Nat.le_refl _))) (p := ⟨w.heap.size + 1, 1, none⟩) (.slice A6 (fs.length + 1) c6) (N6.out _ (Nat.le_succ _) (Nat.le_refl _))
            have q8 := only_setD (only_setD q7 (p := ⟨w.heap.size + 1, 0, none⟩) (.int .i64 v) (Nat.le_succ _)) (p := ⟨w.heap.size + 1, 1, none⟩) (.slice A6 (fs.length + 1) c6) (Nat.le_succ _)
            have kd8 := (KD7.out.set (p := ⟨w.heap.size + 1, 0, none⟩) (.int .i64 v) (Nat.le_succ _)).set (p := ⟨w.heap.size + 1, 1, none⟩) (.slice A6 (fs.length + 1) c6) (Nat.le_succ _)
            generalize (w7.setCell ⟨w.heap.size + 1, 0, none⟩ (.int .i64 v)).setCell ⟨w.heap.size + 1, 1, none⟩ (.slice A6 (fs.length + 1) c6) = w8 at K2 o8 q8 kd8 ⊢
            have r0 := K2.cell 0
            have r1 := K2.cell 1
            simp only [List.set_cons_zero, List.set_cons_succ, List.getElem?_cons_zero, List.getElem?_cons_succ] at r0 r1
            have EL : (fs ++ [(⟨x, y, z⟩ : Fk)]).length = fs.length + 1 := by rw [List.length_append]; rfl
            have wz : IntKind.i64.wrap ((fs.length : Int) + 1 + 1) = fs.length + 2 := by rw [show (fs.length : Int) + 1 + 1 = fs.length + 2 by omega]; exact IntWalk.i64_in _ (by omega)
            refine bodyPost_ret (v := .tuple #[.agg #[.int .i64 v, .slice A6 (fs.length + 1) c6], .int .i64 (fs.length + 2)]) (by simp [results, Tryd.results70, go_sem, r0, r1, wz]) rfl ?_
            rw [HRE.out]
            exact ⟨⟨q8.os, q8.tape, q8.output, q8.size, q8.block⟩, kd8, .inr ⟨by show (0 : Int) ≤ fs.length + 2; omega, A6, c6, by dsimp only; rw [EL], by dsimp only; rw [EL]; exact own_of_heap o8 rfl, by dsimp only; rw [EL]; exact L6.out⟩⟩
end Go.Proofs.YtnhjcokmajejcaaDoor
