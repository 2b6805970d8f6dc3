/- Circuits that are made: a gate that is new, in the model. -/
import Derived.Test.YtnhjcokmajejcaaMkT
namespace Go.Proofs.Ytnhjcokmajejcaa
open Go.RowKit
set_option maxRecDepth 100000

set_option maxRecDepth 100000 in
set_option maxHeartbeats 2000000 in
theorem l7And_put (s : Ci) (A : Option Addr) (c : Nat) (a b lo hi : Int) (base : Nat) (w : World) (ho : w.ownsRow base 90 2 (.slice A s.gates.length c) s.gates.length (fl s.gates)) (hb : base ≤ w.heap.size) (l0 : 0 ≤ lo) (h2 : hi < 2000)
    (hs : (a = lo ∧ b = hi ∧ lo ≤ hi) ∨ (a = hi ∧ b = lo ∧ lo < hi)) (i0 : 0 ≤ s.ins) (i1 : s.ins ≤ 12) (hn : s.gates.length ≤ 600) (hq : ¬ ((lo = 0 ∨ (lo / 2 = hi / 2 ∧ lo ≠ hi)) ∨ (lo = 1 ∨ lo = hi))) (hf' : findN s lo hi < 0) (hfull : ¬ 600 ≤ s.gates.length) :
    Calls Try.prog 52 #[.agg #[.int .i64 s.ins, .slice A s.gates.length c], .int .i64 a, .int .i64 b] w (GivesCE base (bl (.slice A s.gates.length c)) w (andR s lo hi)) := by
  have hh := half_eq l0 (by omega)
  have hl := half_eq (show 0 ≤ hi by omega) h2
  have g1 : (lo == 0) = false := by simp; omega
  have g2 : (lo / 2 == hi / 2) = false := by simp; omega
  have g3 : (lo == 1) = false := by simp; omega
  have g4 : (lo == hi) = false := by simp; omega
  have FN := Lib.hid (fun W (B : Below w.heap.size w W) => l7Find_any s A s.gates.length c lo hi W (rd_gates (own_below ho B) rfl (by omega)) i0 i1 (by omega))
  have fl' := findN_le (a := lo) (b := hi) i0 i1 hn
  have e1 := findN_none i0 hf'
  have he : andR s lo hi = (⟨s.ins, s.gates ++ [⟨lo, hi⟩]⟩, 2 * (1 + s.ins + s.gates.length)) := by
    unfold andR; rw [if_neg (by omega), if_neg (by omega), e1]; exact if_neg hfull
  rw [he]
  generalize findN s lo hi = F at *
  obtain ⟨m, gs⟩ := s
  dsimp only at *
  have BX := Lib.hid (two_boxes w #[.int .i64 m, .slice A gs.length c] #[.int .i64 0, .slice none 0 0] 49 49)
  have HO := Lib.hid (fun W (B : Below w.heap.size w W) => own_below ho B)
  have NB := Lib.hid (fun x (hx : w.heap.size ≤ x) (e : (Value.slice A gs.length c).ownBlock = some x) => show False from by have := (ho.lt x e).2; omega)
  have HB := Lib.hid (fun x (e : (Value.slice A gs.length c).ownBlock = some x) => (ho.lt x e).1)
  have HFU := Lib.hid (show (gs.length : Int) < 600 by omega)
  have NX := Lib.hid (fun A' c' W => l7Nodes_any ⟨m, gs ++ [⟨lo, hi⟩]⟩ A' c' W i0 i1 (by show (gs ++ [_]).length ≤ 600; rw [List.length_append]; simp; omega))
  have EL : (gs ++ [(⟨lo, hi⟩ : Ga)]).length = gs.length + 1 := by rw [List.length_append]; rfl
  have EN : (⟨m, gs ++ [⟨lo, hi⟩]⟩ : Ci).nodes = 1 + m + gs.length + 1 := by unfold Ci.nodes; dsimp only; rw [EL]; omega
  rw [EN] at NX
  dsimp only at NX
  rw [EL] at NX
  clear he e1 ho EN EL hn hfull hq
  rcases hs with ⟨e1, e2, h⟩ | ⟨e1, e2, h⟩
  all_goals
    rw [e1, e2]
    clear e1 e2
    go_enter Try.func52, Try.ntmps52
    go_wp2_with fail
    refine (FN.out _ (((Below.refl _ _).alloc (Nat.le_refl _) _).alloc (by simp) _)).mono ?_
    rintro e w1 ⟨rfl, b1⟩
    obtain ⟨B1, k0, k1⟩ := BX.out _ b1
    have x0 := k0.cell 0
    have x1 := k0.cell 1
    have f0 := k1.frozen 0
    have f1 := k1.frozen 1
    have y0 := k1.cell 0
    have y1 := k1.cell 1
    simp only [List.getElem?_cons_zero, List.getElem?_cons_succ] at x0 x1 y0 y1
    have hfu := HFU.out
    go_wp2_with (first | (at_builtin; refine app_ga_at rfl _ _ rfl base _ gs.length gs ⟨lo, hi⟩ w1.heap.size rfl ((HO.out _ B1).alloc _) rfl (ci_blk w1 _ _) (by omega) (by rw [World.size_alloc]; have := B1.size; omega) ?_; intro A5 c5 w5 ho5 hg5 hl5
                          have k05 := blk_grown (k0.alloc _) hg5 (NB.out _ (Nat.le_refl _))
                          have k15 := blk_grown (k1.alloc _) hg5 (NB.out _ (Nat.le_succ _))
                          have f05 := k05.frozen 1
                          have x05 := k05.cell 1
                          simp only [List.getElem?_cons_zero, List.getElem?_cons_succ] at x05))
    have z1 := B1.size
    have n5 : ∀ x, w.heap.size ≤ x → x ≤ w.heap.size + 1 → (Value.slice A5 (gs.length + 1) c5).ownBlock ≠ some x := fun x hx hx' e => by
      rcases hl5 with q | q
      · rw [q] at e; exact NB.out x hx e
      · rw [q, World.size_alloc] at e
        injection e with e
        have := b1.size
        rw [World.size_alloc, World.size_alloc] at this
        omega
    have q5 : Only (bl (.slice A gs.length c)) w w5 := ((Only.of_below B1 _).trans (Only.of_below (below_alloc w1 _) _)).trans (Only.of_grown hg5 fun g e => mem_bl.2 e)
    have L5 : Hid (∀ x ∈ bl (.slice A5 (gs.length + 1) c5), x ∈ bl (.slice A gs.length c) ∨ w.heap.size ≤ x) := Lib.hid (fun x hx => by
      have hx := mem_bl.1 hx
      rcases hl5 with q | q
      · rw [q] at hx; exact .inl (mem_bl.2 hx)
      · rw [q, World.size_alloc] at hx; injection hx with hx; exact .inr (by omega))
    have b5 : Below base w w5 := ((B1.mono hb).alloc (Nat.le_trans hb z1) _).grown hg5 (by rw [World.size_alloc]; omega) (fun x e => HB.out x e)
    have k06 := k05.set 1 (.slice A5 (gs.length + 1) c5)
    have k16 : Blk (w5.setCell ⟨w.heap.size, 1, none⟩ (.slice A5 (gs.length + 1) c5)) (w.heap.size + 1) _ _ := (setCell_heap _ _ _ (by show w.heap.size + 1 ≠ w.heap.size; omega)).trans k15
    have o6 := own_away ho5 (p := ⟨w.heap.size, 1, none⟩) (.slice A5 (gs.length + 1) c5) (n5 _ (Nat.le_refl _) (Nat.le_succ _))
    have b6 := b5.setCell (p := ⟨w.heap.size, 1, none⟩) hb (.slice A5 (gs.length + 1) c5)
    have q6 := only_set q5 (p := ⟨w.heap.size, 1, none⟩) (.slice A5 (gs.length + 1) c5) (Nat.le_refl _)
    clear k05 k15 f05 x05 x0 x1 f0 f1 y0 y1 k0 k1
    generalize w5.setCell ⟨w.heap.size, 1, none⟩ (.slice A5 (gs.length + 1) c5) = w6 at k06 k16 o6 b6 q6 ⊢
    have x0 := k06.cell 0
    have x1 := k06.cell 1
    simp only [List.set_cons_zero, List.set_cons_succ, List.getElem?_cons_zero, List.getElem?_cons_succ] at x0 x1
    have K16 := Lib.hid k16
    have K06 := Lib.hid k06
    have O6 := Lib.hid o6
    have N5 := Lib.hid n5
    clear k16 k06 o6 n5 hl5
    have wz1 : IntKind.i64.wrap (1 + m + (gs.length : Int)) = 1 + m + gs.length := IntWalk.i64_in _ (by omega)
    have wz2 : IntKind.i64.wrap (2 * (1 + m + (gs.length : Int))) = 2 * (1 + m + gs.length) := IntWalk.i64_in _ (by omega)
    go_region_held3 (fun w' => w'.cell? ⟨w.heap.size, 0, none⟩ = some (.int .i64 m) ∧ w'.cell? ⟨w.heap.size, 1, none⟩ = some (.slice A5 (gs.length + 1) c5))
      (go_keep)
      (first
        | (go_at_call 93; refine (NX.out _ _ _).mono ?_; rintro e w7 ⟨rfl, b7'⟩
           have b7 : Below w6.heap.size w6 w7 := ⟨b7'.os, b7'.tape, b7'.output, b7'.size, b7'.block⟩
           have x07 := cell_below b7 (p := ⟨w.heap.size, 0, none⟩) K06.out.lt x0
           have x17 := cell_below b7 (p := ⟨w.heap.size, 1, none⟩) K06.out.lt x1
           have K17 := Lib.hid (K16.out.below b7 K16.out.lt)
           have y0 := K17.out.cell 0
           have y1 := K17.out.cell 1
           have f0 := K17.out.frozen 0
           have f1 := K17.out.frozen 1
           simp only [List.getElem?_cons_zero, List.getElem?_cons_succ] at y0 y1))
    all_goals
      go_wp2
      have K2 := (K17.out.set 0 (.int .i64 m)).set 1 (.slice A5 (gs.length + 1) c5)
      have o7 := own_away (own_away (own_below O6.out b7) (p := ⟨w.heap.size + 1, 0, none⟩) (.int .i64 m) (N5.out _ (Nat.le_succ _) (Nat.le_refl _))) (p := ⟨w.heap.size + 1, 1, none⟩) (.slice A5 (gs.length + 1) c5) (N5.out _ (Nat.le_succ _) (Nat.le_refl _))
      have b8 := ((b6.trans (b7.mono (Nat.le_trans hb b6.size))).setCell (p := ⟨w.heap.size + 1, 0, none⟩) (by show base ≤ w.heap.size + 1; omega) (.int .i64 m)).setCell (p := ⟨w.heap.size + 1, 1, none⟩) (by show base ≤ w.heap.size + 1; omega) (.slice A5 (gs.length + 1) c5)
      have q8 := only_set (only_set (q6.trans (Only.of_below b7 _)) (p := ⟨w.heap.size + 1, 0, none⟩) (.int .i64 m) (Nat.le_succ _)) (p := ⟨w.heap.size + 1, 1, none⟩) (.slice A5 (gs.length + 1) c5) (Nat.le_succ _)
      generalize (w7.setCell ⟨w.heap.size + 1, 0, none⟩ (.int .i64 m)).setCell ⟨w.heap.size + 1, 1, none⟩ (.slice A5 (gs.length + 1) c5) = w8 at K2 o7 b8 q8 ⊢
      have r0 := K2.cell 0
      have r1 := K2.cell 1
      simp only [List.set_cons_zero, List.set_cons_succ, List.getElem?_cons_zero, List.getElem?_cons_succ] at r0 r1
      have EL : (gs ++ [(⟨lo, hi⟩ : Ga)]).length = gs.length + 1 := by rw [List.length_append]; rfl
      refine bodyPost_ret (v := .tuple #[.agg #[.int .i64 m, .slice A5 (gs.length + 1) c5], .int .i64 (2 * (1 + m + gs.length))]) (by simp [results, Try.results52, go_sem, r0, r1]) rfl ⟨A5, c5, by dsimp only; rw [EL], by dsimp only; rw [EL]; exact o7, q8, by dsimp only; rw [EL]; exact L5.out⟩

end Go.Proofs.Ytnhjcokmajejcaa
