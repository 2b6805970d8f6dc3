/- Circuits that are made: a gate that is found, or is new, in the model. -/
import Derived.Test.YtnhjcokmajejcaaMkU
namespace Go.Proofs.Ytnhjcokmajejcaa
open Go.RowKit
set_option maxRecDepth 100000

set_option maxHeartbeats 2000000 in
theorem l7And_find (s : Ci) (A : Option Addr) (c : Nat) (a b lo hi : Int) (base : Nat) (w : World) (ho : w.ownsRow base 90 2 (.slice A s.gates.length c) s.gates.length (fl s.gates)) (hb : base ≤ w.heap.size) (l0 : 0 ≤ lo) (h2 : hi < 2000)
    (hs : (a = lo ∧ b = hi ∧ lo ≤ hi) ∨ (a = hi ∧ b = lo ∧ lo < hi)) (i0 : 0 ≤ s.ins) (i1 : s.ins ≤ 12) (hn : s.gates.length ≤ 600) (hq : ¬ ((lo = 0 ∨ (lo / 2 = hi / 2 ∧ lo ≠ hi)) ∨ (lo = 1 ∨ lo = hi))) :
    Calls Try.prog 52 #[.agg #[.int .i64 s.ins, .slice A s.gates.length c], .int .i64 a, .int .i64 b] w (GivesCE base (bl (.slice A s.gates.length c)) w (andR s lo hi)) := by
  have hh := half_eq l0 (by omega)
  have hl := half_eq (show 0 ≤ hi by omega) h2
  have g1 : (lo == 0) = false := by simp; omega
  have g2 : (lo / 2 == hi / 2) = false := by simp; omega
  have g3 : (lo == 1) = false := by simp; omega
  have g4 : (lo == hi) = false := by simp; omega
  have FN := Lib.hid (fun W (B : Below w.heap.size w W) => l7Find_any s A s.gates.length c lo hi W (rd_gates (own_below ho B) rfl (by omega)) i0 i1 (by omega))
  have fl' := findN_le (a := lo) (b := hi) i0 i1 hn
  by_cases hf : 0 ≤ findN s lo hi
  · obtain ⟨i, e1, e2⟩ := findN_some i0 hf
    have he : andR s lo hi = (s, 2 * findN s lo hi) := by
      unfold andR; rw [if_neg (by omega), if_neg (by omega), e1, e2]
    rw [he]
    generalize findN s lo hi = F at *
    obtain ⟨m, gs⟩ := s
    dsimp only at *
    have BX := Lib.hid (two_boxes w #[.int .i64 m, .slice A gs.length c] #[.int .i64 0, .slice none 0 0] 49 49)
    have HO := Lib.hid (fun W (B : Below w.heap.size w W) => own_below ho B)
    have NB := Lib.hid (fun x (hx : w.heap.size ≤ x) (e : (Value.slice A gs.length c).ownBlock = some x) => show False from by have := (ho.lt x e).2; omega)
    clear he e1 e2 ho
    rcases hs with ⟨e1, e2, h⟩ | ⟨e1, e2, h⟩
    all_goals
      rw [e1, e2]
      clear e1 e2
      go_enter Try.func52, Try.ntmps52
      go_wp2_with fail
      refine (FN.out _ (((Below.refl _ _).alloc (Nat.le_refl _) _).alloc (by simp) _)).mono ?_
      rintro e w1 ⟨rfl, b1⟩
      obtain ⟨B1, k0, k1⟩ := BX.out _ b1
      have x0 := k0.cell 0
      have x1 := k0.cell 1
      have f0 := k1.frozen 0
      have f1 := k1.frozen 1
      have y0 := k1.cell 0
      have y1 := k1.cell 1
      simp only [List.getElem?_cons_zero, List.getElem?_cons_succ] at x0 x1 y0 y1
      go_wp2
      have K2 := (k1.set 0 (.int .i64 m)).set 1 (.slice A gs.length c)
      generalize hW : (w1.setCell ⟨w.heap.size + 1, 0, none⟩ (.int .i64 m)).setCell ⟨w.heap.size + 1, 1, none⟩ (.slice A gs.length c) = W3 at K2 ⊢
      have r0 := K2.cell 0
      have r1 := K2.cell 1
      simp only [List.set_cons_zero, List.set_cons_succ, List.getElem?_cons_zero, List.getElem?_cons_succ] at r0 r1
      refine bodyPost_ret (v := .tuple #[.agg #[.int .i64 m, .slice A gs.length c], .int .i64 (2 * F)]) (by simp [results, Try.results52, go_sem, r0, r1]) rfl ⟨A, c, rfl, ?_, ?_, fun x hx => .inl hx⟩
      · rw [← hW]
        exact own_away (own_away (HO.out _ B1) _ (NB.out _ (Nat.le_succ _))) _ (NB.out _ (Nat.le_succ _))
      · rw [← hW]
        exact only_set (only_set (Only.of_below B1 _) _ (Nat.le_succ _)) _ (Nat.le_succ _)

  · have hf' : findN s lo hi < 0 := by omega
    have e1 := findN_none i0 hf'
    by_cases hfull : 600 ≤ s.gates.length
    · have he : andR s lo hi = (s, -1) := by
        unfold andR; rw [if_neg (by omega), if_neg (by omega), e1]; exact if_pos hfull
      rw [he]
      generalize findN s lo hi = F at *
      obtain ⟨m, gs⟩ := s
      dsimp only at *
      have BX := Lib.hid (two_boxes w #[.int .i64 m, .slice A gs.length c] #[.int .i64 0, .slice none 0 0] 49 49)
      have HO := Lib.hid (fun W (B : Below w.heap.size w W) => own_below ho B)
      have NB := Lib.hid (fun x (hx : w.heap.size ≤ x) (e : (Value.slice A gs.length c).ownBlock = some x) => show False from by have := (ho.lt x e).2; omega)
      have hfull' : (600 : Int) ≤ gs.length := by omega
      clear he e1 ho hf
      rcases hs with ⟨e1, e2, h⟩ | ⟨e1, e2, h⟩
      all_goals
        rw [e1, e2]
        clear e1 e2
        go_enter Try.func52, Try.ntmps52
        go_wp2_with fail
        refine (FN.out _ (((Below.refl _ _).alloc (Nat.le_refl _) _).alloc (by simp) _)).mono ?_
        rintro e w1 ⟨rfl, b1⟩
        obtain ⟨B1, k0, k1⟩ := BX.out _ b1
        have x0 := k0.cell 0
        have x1 := k0.cell 1
        have f0 := k1.frozen 0
        have f1 := k1.frozen 1
        have y0 := k1.cell 0
        have y1 := k1.cell 1
        simp only [List.getElem?_cons_zero, List.getElem?_cons_succ] at x0 x1 y0 y1
        go_wp2
        have K2 := (k1.set 0 (.int .i64 m)).set 1 (.slice A gs.length c)
        generalize hW : (w1.setCell ⟨w.heap.size + 1, 0, none⟩ (.int .i64 m)).setCell ⟨w.heap.size + 1, 1, none⟩ (.slice A gs.length c) = W3 at K2 ⊢
        have r0 := K2.cell 0
        have r1 := K2.cell 1
        simp only [List.set_cons_zero, List.set_cons_succ, List.getElem?_cons_zero, List.getElem?_cons_succ] at r0 r1
        refine bodyPost_ret (v := .tuple #[.agg #[.int .i64 m, .slice A gs.length c], .int .i64 (-1)]) (by simp [results, Try.results52, go_sem, r0, r1]) rfl ⟨A, c, rfl, ?_, ?_, fun x hx => .inl hx⟩
        · rw [← hW]
          exact own_away (own_away (HO.out _ B1) _ (NB.out _ (Nat.le_succ _))) _ (NB.out _ (Nat.le_succ _))
        · rw [← hW]
          exact only_set (only_set (Only.of_below B1 _) _ (Nat.le_succ _)) _ (Nat.le_succ _)
    · exact l7And_put s A c a b lo hi base w ho hb l0 h2 hs i0 i1 hn hq hf' hfull

/-- 'l7And' of whatever edges. -/
theorem l7And_any (s : Ci) (A : Option Addr) (c : Nat) (a b : Int) (base : Nat) (w : World) (ho : w.ownsRow base 90 2 (.slice A s.gates.length c) s.gates.length (fl s.gates)) (hb : base ≤ w.heap.size) (a0 : 0 ≤ a) (a1 : a < 2000) (b0 : 0 ≤ b) (b1 : b < 2000)
    (h : Gd s) : Calls Try.prog 52 #[.agg #[.int .i64 s.ins, .slice A s.gates.length c], .int .i64 a, .int .i64 b] w (GivesCE base (bl (.slice A s.gates.length c)) w (andB s a b)) := by
  have key : ∀ lo hi, 0 ≤ lo → hi < 2000 → ((a = lo ∧ b = hi ∧ lo ≤ hi) ∨ (a = hi ∧ b = lo ∧ lo < hi)) → Calls Try.prog 52 #[.agg #[.int .i64 s.ins, .slice A s.gates.length c], .int .i64 a, .int .i64 b] w (GivesCE base (bl (.slice A s.gates.length c)) w (andR s lo hi)) := fun lo hi l0 h2 hs => by
    by_cases hq : (lo = 0 ∨ (lo / 2 = hi / 2 ∧ lo ≠ hi)) ∨ (lo = 1 ∨ lo = hi)
    · obtain ⟨e, he⟩ : ∃ e, andR s lo hi = (s, e) := by
        unfold andR
        by_cases q1 : lo = 0 ∨ (lo / 2 = hi / 2 ∧ lo ≠ hi)
        · exact ⟨_, if_pos q1⟩
        · rw [if_neg q1]
          exact ⟨_, if_pos (hq.resolve_left q1)⟩
      exact l7And_quick s A c a b lo hi base w ho hb l0 h2 hs e he hq
    · exact l7And_find s A c a b lo hi base w ho hb l0 h2 hs h.lo h.hi h.few hq
  unfold andB
  by_cases q : a ≤ b
  · rw [if_pos q]; exact key a b a0 b1 (.inl ⟨rfl, rfl, q⟩)
  · rw [if_neg q]; exact key b a b0 a1 (.inr ⟨rfl, rfl, by omega⟩)
end Go.Proofs.Ytnhjcokmajejcaa
