/- Circuits that are made: the maker's and, or and pick, in the program. -/
import Derived.Test.YtnhjcokmajejcaaMkB
namespace Go.Proofs.Ytnhjcokmajejcaa
open Go.RowKit
set_option maxRecDepth 100000

theorem mk_below {w w' : World} {base g : Nat} {c : Ci} {full : Bool} (h : MkAt w base g c full) (hb : Below w.heap.size w w') : MkAt w' base g c full := by
  obtain ⟨A, cc, bm, cnt, D, kg, ho, hm, r⟩ := h
  exact ⟨A, cc, bm, cnt, D, kg.below hb kg.lt, own_below ho hb, map_below hm hb, r⟩
theorem blk_set_far {w : World} {g : Nat} {t : TypeId} {cs : List Value} (h : Blk w g t cs) {p : Addr} (u : Value) (hne : g ≠ p.block) : Blk (w.setCell p u) g t cs := (setCell_heap _ _ _ hne).trans h

set_option maxRecDepth 100000 in
set_option maxHeartbeats 2000000 in
theorem and_find (s : Ci) (full : Bool) (a b lo hi : Int) (base g : Nat) (w : World) (hM : MkAt w base g s full) (hb : base ≤ w.heap.size) (h : Gd s) (l0 : 0 ≤ lo) (h2 : hi < 2000)
    (hs : (a = lo ∧ b = hi ∧ lo ≤ hi) ∨ (a = hi ∧ b = lo ∧ lo < hi)) (hq : ¬ ((lo = 0 ∨ (lo / 2 = hi / 2 ∧ lo ≠ hi)) ∨ (lo = 1 ∨ lo = hi))) :
    Calls Try.prog 58 #[.pointer (some ⟨g, 0, none⟩), .int .i64 a, .int .i64 b] w (GivesMk base g (andR s lo hi).1 (full || decide ((andR s lo hi).2 < 0)) (edV (andR s lo hi).2) w) := by
  have hlt : lo < hi := by rcases hs with h | h <;> omega
  have hs : (a = lo ∧ b = hi) ∨ (a = hi ∧ b = lo) := by rcases hs with h | h <;> omega
  have hn : notE hi = hi / 2 * 2 + 1 - hi % 2 := by unfold notE; rw [if_neg (by omega)]
  have CE := Lib.hid (fun W => contrary_any hi W (by omega) h2)
  have g1 : (lo == 0) = false := by simp; omega
  have g2 : (lo == notE hi) = false := by rw [hn]; simp; omega
  have g3 : (lo == 1) = false := by simp; omega
  have g4 : (lo == hi) = false := by simp; omega
  have i0 := h.lo
  have i1 := h.hi
  have hfew := h.few
  have hM0 := Lib.hid hM
  obtain ⟨A, cc, bm, cnt, D, kg, ho, hm, hcnt, hF, hg, hbm, hne, hrow⟩ := hM
  have PU := Lib.hid (fun W (B : Below w.heap.size w W) (hl : s.gates.length < 600) => put_any s full lo hi base g W (mk_below hM0.out B) (Nat.le_trans hb B.size) h hl l0 (by omega) (by omega) h2)
  have hnod : s.nodes = 1 + s.ins + s.gates.length := rfl
  have lg := kg.lt
  have z2 := (kg.alloc (.cells #[.int .i64 lo, .int .i64 hi] 90)).cell 2
  have z1 := (kg.alloc (.cells #[.int .i64 lo, .int .i64 hi] 90)).cell 1
  have f3 := (kg.alloc (.cells #[.int .i64 lo, .int .i64 hi] 90)).frozen 3
  have z3 := (kg.alloc (.cells #[.int .i64 lo, .int .i64 hi] 90)).cell 3
  simp only [List.getElem?_cons_zero, List.getElem?_cons_succ] at z1 z2 z3
  obtain ⟨v, hv, HL⟩ := map_look (hm.alloc (.cells #[.int .i64 lo, .int .i64 hi] 90)) hF l0 (show lo < 2000 by omega) (show 0 ≤ hi by omega) h2
  have LK := fun k => HL ((w.alloc (.cells #[.int .i64 lo, .int .i64 hi] 90)).drewN k) rfl
  have B1 : ∀ k, Below w.heap.size w ((w.alloc (.cells #[.int .i64 lo, .int .i64 hi] 90)).drewN k) := fun k => ⟨rfl, rfl, rfl, (below_alloc w _).size, fun i hi => (below_alloc w _).block i hi⟩
  have BB := Lib.hid B1
  have KG := Lib.hid kg
  have HO := Lib.hid ho
  have HM := Lib.hid hm
  have HF := Lib.hid hF
  have HR := Lib.hid hrow
  have HC := Lib.hid hcnt
  clear HL hm ho hrow kg hF B1 hn
  cases q : findB s.gates lo hi with
  | some i =>
    have he : andR s lo hi = (s, 2 * (1 + s.ins + i)) := by unfold andR; rw [if_neg (by omega), if_neg (by omega), q]
    have hi6 := findTo_lt q
    rw [he]
    have p1 : (full || decide ((2 * (1 + s.ins + (i : Int))) < 0)) = full := by rw [decide_eq_false (by omega)]; simp
    have p2 : edV (2 * (1 + s.ins + (i : Int))) = 2 * (1 + s.ins + i) := if_neg (by omega)
    dsimp only
    rw [p1, p2]
    have ev : v = 1 + s.ins + i := by
      rcases hv with e | ⟨j, e, e2⟩
      · rw [q] at e; cases e
      · rw [q] at e; injection e with e; rw [e]; exact e2
    rw [q] at LK
    simp only [Option.isSome_some] at LK
    rw [← ev]
    have v0 : 0 ≤ v := by omega
    have v1 : v ≤ 1000 := by omega
    have EV := Lib.hid (fun W => evenEdge_any v W v0 (by omega))
    obtain ⟨m, gs⟩ := s
    dsimp only at *
    clear p1 p2 he hq hv ev q h PU hnod hi6
    rcases hs with ⟨e1, e2⟩ | ⟨e1, e2⟩
    all_goals
      rw [e1, e2]
      clear e1 e2
      go_enter Try.func58, Try.ntmps58
      go_wp2_with (first | (go_at_call 98; refine (CE.out _).mono ?_; rintro e w3 ⟨rfl, rfl⟩))
      all_goals
        first
          | (exfalso; omega)
          | skip
      go_quiet (fail)
      go_wp2_with (first | (go_at_call 57; refine (EV.out _).mono ?_; rintro e w3 ⟨rfl, rfl⟩))
      go_ret
      exact ⟨rfl, mk_below hM0.out (BB.out _), (BB.out _).mono hb, FrameC.of_below (BB.out _) lg⟩
  | none =>
    rw [q] at LK
    simp only [Option.isSome_none] at LK
    clear hv
    by_cases hfull : 600 ≤ s.gates.length
    · have he : andR s lo hi = (s, -1) := by unfold andR; rw [if_neg (by omega), if_neg (by omega), q]; exact if_pos hfull
      rw [he]
      have p1 : (full || decide ((-1 : Int) < 0)) = true := by simp
      have p2 : edV (-1) = 0 := by decide
      dsimp only
      rw [p1, p2]
      have e6 : s.gates.length = 600 := by omega
      have e7 : ((s.gates.length : Int) == 600) = true := by rw [e6]; rfl
      obtain ⟨m, gs⟩ := s
      dsimp only at *
      clear p1 p2 he hq q h PU hnod hfull e6 hfew hcnt
      rcases hs with ⟨e1, e2⟩ | ⟨e1, e2⟩
      all_goals
        rw [e1, e2]
        clear e1 e2
        go_enter Try.func58, Try.ntmps58
        go_wp2_with (first | (go_at_call 98; refine (CE.out _).mono ?_; rintro e w3 ⟨rfl, rfl⟩))
        all_goals
          first
            | (exfalso; omega)
            | skip
        go_quiet (fail)
        go_wp2
        go_ret
        have K3 := (blk_of_heap (KG.out.alloc (.cells #[.int .i64 lo, .int .i64 hi] 90)) rfl : Blk ((w.alloc (.cells #[.int .i64 lo, .int .i64 hi] 90)).drewN nq) _ _ _).set 3 (.bool true)
        refine ⟨rfl, ⟨A, cc, bm, cnt, D, K3, own_away (own_of_heap (HO.out.alloc (.cells #[.int .i64 lo, .int .i64 hi] 90)) rfl) _ (fun e => (HR.out g (mem_bl.2 e)).1 rfl), (map_of_heap (HM.out.alloc (.cells #[.int .i64 lo, .int .i64 hi] 90)) rfl).setCell (fun e => hne e.symm) _, HC.out, HF.out, hg, hbm, hne, HR.out⟩, ((BB.out _).mono hb).setCell hg _,
          frameC_of KG.out K3 (((BB.out _).mono hb).setCell (p := ⟨g, 3, none⟩) hg (.bool true)).size (fun b h1 h2 _ _ => (setCell_heap _ _ _ (show b ≠ g from h2)).trans ((BB.out _).block b h1)) (fun _ _ h => h)⟩
    · have he : andR s lo hi = (⟨s.ins, s.gates ++ [⟨lo, hi⟩]⟩, 2 * (1 + s.ins + s.gates.length)) := by unfold andR; rw [if_neg (by omega), if_neg (by omega), q]; exact if_neg hfull
      rw [he]
      have p1 : (full || decide ((2 * (1 + s.ins + (s.gates.length : Int))) < 0)) = full := by rw [decide_eq_false (by omega)]; simp
      have p2 : edV (2 * (1 + s.ins + (s.gates.length : Int))) = 2 * (1 + s.ins + s.gates.length) := if_neg (by omega)
      dsimp only
      rw [p1, p2]
      have PU2 := Lib.hid (fun W B => PU.out W B (by omega))
      rw [hnod] at PU2
      have e7 : ((s.gates.length : Int) == 600) = false := by simp; omega
      have EV := Lib.hid (fun W => evenEdge_any (1 + s.ins + s.gates.length) W (by omega) (by omega))
      have PN := Lib.hid (show ∀ W, Below w.heap.size w W → Calls Try.prog 97 #[.pointer (some ⟨g, 0, none⟩), .agg #[.int .i64 lo, .int .i64 hi]] W (GivesMk base g ⟨s.ins, s.gates ++ [⟨lo, hi⟩]⟩ full (1 + s.ins + s.gates.length) W) from fun W B => PU2.out W B)
      have HL := Lib.hid (show (s.gates.length : Int) < 600 by omega)
      obtain ⟨m, gs⟩ := s
      dsimp only at *
      clear p1 p2 he hq q h PU PU2 hnod hfull hfew hcnt
      rcases hs with ⟨e1, e2⟩ | ⟨e1, e2⟩
      all_goals
        rw [e1, e2]
        clear e1 e2
        go_enter Try.func58, Try.ntmps58
        go_wp2_with (first | (go_at_call 98; refine (CE.out _).mono ?_; rintro e w3 ⟨rfl, rfl⟩))
        all_goals
          first
            | (exfalso; omega)
            | skip
        go_quiet (fail)
        go_wp2_with (first | (go_at_call 97; refine (PN.out _ (BB.out _)).mono ?_; rintro e w5 ⟨rfl, hm5, b5, f5⟩) | (go_at_call 57; refine (EV.out _).mono ?_; rintro e w3 ⟨rfl, rfl⟩))
        go_ret
        exact ⟨rfl, hm5, ((BB.out _).mono hb).trans b5, (FrameC.of_below (BB.out _) lg).trans f5⟩
end Go.Proofs.Ytnhjcokmajejcaa
