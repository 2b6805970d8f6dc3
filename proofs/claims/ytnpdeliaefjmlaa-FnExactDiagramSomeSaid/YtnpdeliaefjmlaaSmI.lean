/- Diagrams: DiagramSome, in the program. -/
import Derived.Test.YtnpdeliaefjmlaaSmA
namespace Go.Proofs.Ytnpdeliaefjmlaa
open Go.RowKit
set_option maxRecDepth 100000

theorem p13S : (3 : Nat) ^ 13 = 1594323 := by decide
theorem smR_no {d : Dg} {n v : Int} (h : (runF 3 13 d n v).2 < 0 ∨ (runF 4 13 (runF 3 13 d n v).1 n v).2 < 0) : (smR d n v).2 < 0 := by
  unfold smR
  by_cases c0 : (runF 3 13 d n v).2 < 0
  · rw [if_pos c0]; show (-1 : Int) < 0; decide
  · rw [if_neg c0, if_pos (h.resolve_left c0)]; show (-1 : Int) < 0; decide
theorem smR_at {d d0 d1 : Dg} {n v x0 x1 : Int} (e0 : runF 3 13 d n v = (d0, x0)) (h0 : 0 ≤ x0) (e1 : runF 4 13 d0 n v = (d1, x1)) (h1 : 0 ≤ x1) : smR d n v = runF 2 13 d1 x0 x1 := by
  unfold smR
  rw [e0, if_neg (by show ¬ x0 < 0; omega)]
  dsimp only
  rw [e1, if_neg (by show ¬ x1 < 0; omega)]
theorem or_any (d : Dg) (a b : Int) (full : Bool) (m base g : Nat) (w : World) (hM : MkD w base g d full m) (hb : base ≤ w.heap.size) (gA : fitA d 2 a b) (hm : m + 3 ^ 13 ≤ 100000000) :
    Calls Try.prog 114 #[.pointer (some ⟨g, 0, none⟩), .int .i64 a, .int .i64 b] w (GivesRun base g d 2 a b full (m + 3 ^ 13) w) := by
  have CO := Lib.hid (combine_any 13 d 2 a b full m base g w hM hb gA (by decide) (rk_13 hM.ok gA) hm)
  go_enter Try.func114, Try.ntmps114
  go_wp2_with fail
  refine (CO.out).mono ?_
  rintro e w1 ⟨x, d', full', rfl, h1, h2, h3, h4⟩
  go_wp2
  go_ret
  exact ⟨x, d', full', rfl, h1, h2, h3, h4⟩
/-- The call gives a place, and what is known of the maker. -/
def GivesSmP (base g : Nat) (d : Dg) (n v : Int) (full : Bool) (m : Nat) (w : World) (e : Ending) (w' : World) : Prop :=
  ∃ x d' full', e = .returned (.int .i64 x) ∧ MkD w' base g d' full' (m + 4782969) ∧ Below base w w' ∧ isP d' x = true ∧ d'.vars = d.vars ∧ (full' = false → full = false ∧ smR d n v = (d', x)) ∧ (full' = true → full = true ∨ (smR d n v).2 < 0)
set_option maxHeartbeats 4000000 in
theorem some_any (d : Dg) (n v : Int) (full : Bool) (m base g : Nat) (w : World) (hM : MkD w base g d full m) (hb : base ≤ w.heap.size) (p : isP d n = true) (hv : varIn d v = true) (hm : m + 4782969 ≤ 100000000) :
    Calls Try.prog 80 #[.pointer (some ⟨g, 0, none⟩), .int .i64 n, .int .i64 v] w (GivesSmP base g d n v full m w) := by
  have g0 : fitA d 3 n v := fit_fix (x := 0) (by decide) p hv
  have g1 : fitA d 4 n v := fit_fix (x := 1) (by decide) p hv
  obtain ⟨q, hq⟩ : ∃ q : Nat, q = 3 ^ 13 := ⟨_, rfl⟩
  have q3 : q = 1594323 := hq.trans p13S
  have eM : m + q + q + q = m + 4782969 := by omega
  clear q3
  have hm' : m + q + q + q ≤ 100000000 := by rw [eM]; exact hm
  have EM := Lib.hid eM
  clear eM hm
  have C0 := Lib.hid (fix0_any 13 d n v full m base g w hM hb g0 (rk_13 hM.ok g0) (by rw [← hq]; omega))
  rw [← hq] at C0
  go_enter Try.func80, Try.ntmps80
  go_wp2_with fail
  refine (C0.out).mono ?_
  rintro e w1 ⟨x0, d0, f0, rfl, M0, b0, r0, _⟩
  have g1' := g1.ext r0.ext
  have s1 := Nat.le_trans hb b0.size
  have C1 := Lib.hid (fix1_any 13 d0 n v f0 (m + q) base g w1 M0 s1 g1' (rk_13 M0.ok g1') (by rw [← hq]; omega))
  rw [← hq] at C1
  go_wp2_with fail
  refine (C1.out).mono ?_
  rintro e w2 ⟨x1, d1, f1, rfl, M1, b1, r1, _⟩
  have g2 : fitA d1 2 x0 x1 := ⟨by decide, by decide, r1.ext.isP r0.isP, fun _ => r1.isP, fun q => by omega, fun q => by omega, fun q => by omega⟩
  have s2 := Nat.le_trans s1 b1.size
  have C2 := Lib.hid (or_any d1 x0 x1 f1 (m + q + q) base g w2 M1 s2 g2 (by rw [← hq]; omega))
  rw [← hq] at C2
  clear hq
  go_wp2_with fail
  refine (C2.out).mono ?_
  rintro e w3 ⟨x2, d2, f2, rfl, M2, b2, r2, _⟩
  rw [EM.out] at M2
  go_wp2
  go_ret
  have h0 := (isP_iff.1 r0.isP).1
  have h1 := (isP_iff.1 r1.isP).1
  refine ⟨x2, d2, f2, rfl, M2, (b0.trans b1).trans b2, r2.isP, by rw [r2.ext.vars, r1.ext.vars, r0.ext.vars], fun hf => ?_, fun hf => ?_⟩
  · obtain ⟨e1, q2⟩ := r2.new hf
    obtain ⟨e0, q1⟩ := r1.new e1
    obtain ⟨e, q0⟩ := r0.new e0
    exact ⟨e, by rw [smR_at q0 h0 q1 h1]; exact q2⟩
  · rcases r2.no hf with q | q
    · rcases r1.no q with q | q
      · rcases r0.no q with q | q
        · exact .inl q
        · exact .inr (smR_no (.inl q))
      · cases hz : f0
        · obtain ⟨_, q0⟩ := r0.new hz
          exact .inr (smR_no (.inr (by rw [q0]; exact q)))
        · rcases r0.no hz with q | q
          · exact .inl q
          · exact .inr (smR_no (.inl q))
    · cases hz1 : f1
      · obtain ⟨e0, q1⟩ := r1.new hz1
        obtain ⟨_, q0⟩ := r0.new e0
        exact .inr (by rw [smR_at q0 h0 q1 h1]; exact q)
      · rcases r1.no hz1 with q | q
        · rcases r0.no q with q | q
          · exact .inl q
          · exact .inr (smR_no (.inl q))
        · cases hz : f0
          · obtain ⟨_, q0⟩ := r0.new hz
            exact .inr (smR_no (.inr (by rw [q0]; exact q)))
          · rcases r0.no hz with q | q
            · exact .inl q
            · exact .inr (smR_no (.inl q))

noncomputable def dgSomeB (d : Dg) (nn : Int) (vs : List Int) : Dg × Int := if (dgB d && isP d nn && setV vs d.vars) = true then toldD (smK d nn vs vs.length) else (⟨0, []⟩, -1)
/-- What stands in the loop. -/
def AtSm (d : Dg) (nn : Int) (vs : List Int) (base g k : Nat) (x : Int) (W W' : World) (dk : Dg) (fk : Bool) : Prop :=
  MkD W' base g dk fk (k * 4782969) ∧ Below base W W' ∧ isP dk x = true ∧ dk.vars = d.vars ∧ (fk = false → smK d nn vs k = (dk, x)) ∧ (fk = true → (smK d nn vs vs.length).2 < 0)
theorem atSm_next {d : Dg} {nn : Int} {vs : List Int} {base g k : Nat} {x : Int} {W W' W2 : World} {dk : Dg} {fk : Bool} (h : AtSm d nn vs base g k x W W' dk fk) (hk : k < vs.length) {x2 : Int} {d2 : Dg} {f2 : Bool}
    (hM : MkD W2 base g d2 f2 (k * 4782969 + 4782969)) (hB : Below base W' W2) (hp : isP d2 x2 = true) (hv : d2.vars = dk.vars) (h1 : f2 = false → fk = false ∧ smR dk x (ix vs k) = (d2, x2)) (h2 : f2 = true → fk = true ∨ (smR dk x (ix vs k)).2 < 0) :
    AtSm d nn vs base g (k + 1) x2 W W2 d2 f2 := by
  obtain ⟨_, b, p, v, q1, q2⟩ := h
  have x0 := (isP_iff.1 p).1
  have e : smK d nn vs (k + 1) = if (smK d nn vs k).2 < 0 then smK d nn vs k else smR (smK d nn vs k).1 (smK d nn vs k).2 (ix vs k) := rfl
  refine ⟨by rw [Nat.succ_mul]; exact hM, b.trans hB, hp, hv.trans v, fun hf => ?_, fun hf => ?_⟩
  · obtain ⟨f0, e2⟩ := h1 hf
    have e3 := q1 f0
    rw [e, e3, if_neg (by show ¬ x < 0; omega)]
    exact e2
  · rcases h2 hf with q | q
    · exact q2 q
    · cases hz : fk
      · have e3 := q1 hz
        have e4 : (smK d nn vs (k + 1)).2 < 0 := by rw [e, e3, if_neg (by show ¬ x < 0; omega)]; exact q
        rw [smK_neg e4 _ hk]
        exact e4
      · exact q2 hz

set_option maxRecDepth 100000 in
set_option maxHeartbeats 4000000 in
theorem dgSome_impl (d : Dg) (nn : Int) (vs : List Int) (A2 : Option Addr) (n2 c2 : Nat) (A : Option Addr) (n c : Nat) (w : World) (h1 : Mem.rd w w.heap.size [.slice A n c] d.forks) (h2 : Mem.rd w w.heap.size [.slice A2 n2 c2] vs) :
    Calls Try.prog 33 #[.agg #[.int .i64 d.vars, .slice A n c], .int .i64 nn, .slice A2 n2 c2] w (GivesDgN w (dgSomeB d nn vs).1 (dgSomeB d nn vs).2) := by
  obtain rfl : d.forks.length = n := rd_len h1
  have MK := Lib.hid (fun W (B : Below w.heap.size w W) => makerD_any d [nn] A d.forks.length c (some ⟨W.heap.size, 0, none⟩) 1 1 (W.alloc (.cells #[.int .i64 nn] 3)) (Mem.rd_on_alloc (Mem.rd_on h1 B) _) (rd_newD1 W nn))
  have BX := Lib.hid (two_boxes w #[.int .i64 d.vars, .slice A d.forks.length c] #[.int .i64 0, .slice none 0 0] 46 46)
  have B0 : Below w.heap.size w ((w.alloc (.cells #[.int .i64 d.vars, .slice A d.forks.length c] 46)).alloc (.cells #[.int .i64 0, .slice none 0 0] 46)) := (below_alloc w _).alloc (by simp) _
  have L1 := Lib.hid (fun W (B : Below w.heap.size w W) (v0 : 0 ≤ d.vars) (v1 : d.vars ≤ 9000) => areVars_any A2 n2 c2 vs d.vars W (Mem.rd_on h2 B) v0 v1)
  cases q1 : setV vs d.vars
  · have HBAD : Hid (dgSomeB d nn vs = (⟨0, []⟩, -1)) := Lib.hid (if_neg (by rw [q1]; simp))
    have HNO : Hid ((dgB d && areP d [nn]) = false → dgSomeB d nn vs = (⟨0, []⟩, -1)) := Lib.hid (fun _ => HBAD.out)
    rw [q1] at L1
    generalize dgSomeB d nn vs = R at *
    obtain ⟨v, fs⟩ := d
    dsimp only [Fk.u] at *
    clear h1 q1
    have MK0 := MK.out _ B0
    simp only [World.size_alloc] at MK0
    go_enter Try.func33, Try.ntmps33
    go_wp2_with fail
    refine MK0.mono ?_
    rintro e w1 (⟨hq, rfl, b1'⟩ | ⟨hq, g, rfl, hm1, b1'⟩)
    · have b1 := below_call b1'
      have HT := Lib.hid (HNO.out hq)
      clear hq
      obtain ⟨B1, kb1, kr1⟩ := BX.out _ b1
      have x0 := kb1.cell 0
      have x1 := kb1.cell 1
      have f0 := kr1.frozen 0
      have f1 := kr1.frozen 1
      have y0 := kr1.cell 0
      have y1 := kr1.cell 1
      simp only [List.getElem?_cons_zero, List.getElem?_cons_succ] at x0 x1 y0 y1
      go_wp2
      have K2 := (kr1.set 0 (.int .i64 0)).set 1 (.slice none 0 0)
      have b8 := (B1.setCell (p := ⟨w.heap.size + 1, 0, none⟩) (Nat.le_succ _) (.int .i64 0)).setCell (p := ⟨w.heap.size + 1, 1, none⟩) (Nat.le_succ _) (.slice none 0 0)
      generalize (w1.setCell ⟨w.heap.size + 1, 0, none⟩ (.int .i64 0)).setCell ⟨w.heap.size + 1, 1, none⟩ (.slice none 0 0) = w8 at K2 b8 ⊢
      have r0 := K2.cell 0
      have r1 := K2.cell 1
      simp only [List.set_cons_zero, List.set_cons_succ, List.getElem?_cons_zero, List.getElem?_cons_succ] at r0 r1
      exact bodyPost_ret (v := .tuple #[.agg #[.int .i64 0, .slice none 0 0], .int .i64 (-1)]) (by simp [results, Try.results33, go_sem, r0, r1]) rfl (by rw [HT.out]; exact gives_dg_nil b8)
    · have hn0 := hm1.ok.few
      have hv0 := hm1.ok.lo
      have hv1 : _ ≤ (9000 : Int) := Int.le_trans hm1.ok.hi (by decide)
      dsimp only at hv0 hv1
      dsimp only at hn0
      have hn : fs.length ≤ 100000 := by omega
      have b1 := below_call b1'
      obtain ⟨B1, kb1, kr1⟩ := BX.out _ b1
      have x0 := kb1.cell 0
      have x1 := kb1.cell 1
      have f0 := kr1.frozen 0
      have f1 := kr1.frozen 1
      have y0 := kr1.cell 0
      have y1 := kr1.cell 1
      simp only [List.getElem?_cons_zero, List.getElem?_cons_succ] at x0 x1 y0 y1
      go_wp2_with fail
      refine (L1.out _ B1 hv0 hv1).mono ?_
      rintro e w2 ⟨rfl, c2⟩

      have b2 := b1.trans (c2.mono b1.size)
      obtain ⟨B2, kb2, kr2⟩ := BX.out _ b2
      have x0 := kb2.cell 0
      have x1 := kb2.cell 1
      have f0 := kr2.frozen 0
      have f1 := kr2.frozen 1
      have y0 := kr2.cell 0
      have y1 := kr2.cell 1
      simp only [List.getElem?_cons_zero, List.getElem?_cons_succ] at x0 x1 y0 y1
      have HT := Lib.hid HBAD.out
      clear hq
      go_wp2
      have K2 := (kr2.set 0 (.int .i64 0)).set 1 (.slice none 0 0)
      have b8 := (B2.setCell (p := ⟨w.heap.size + 1, 0, none⟩) (Nat.le_succ _) (.int .i64 0)).setCell (p := ⟨w.heap.size + 1, 1, none⟩) (Nat.le_succ _) (.slice none 0 0)
      generalize (w2.setCell ⟨w.heap.size + 1, 0, none⟩ (.int .i64 0)).setCell ⟨w.heap.size + 1, 1, none⟩ (.slice none 0 0) = w8 at K2 b8 ⊢
      have r0 := K2.cell 0
      have r1 := K2.cell 1
      simp only [List.set_cons_zero, List.set_cons_succ, List.getElem?_cons_zero, List.getElem?_cons_succ] at r0 r1
      exact bodyPost_ret (v := .tuple #[.agg #[.int .i64 0, .slice none 0 0], .int .i64 (-1)]) (by simp [results, Try.results33, go_sem, r0, r1]) rfl (by rw [HT.out]; exact gives_dg_nil b8)
  · rw [q1] at L1
    have HNO : Hid ((dgB d && areP d [nn]) = false → dgSomeB d nn vs = (⟨0, []⟩, -1)) := Lib.hid (fun hq => if_neg (fun h => by
      simp only [Bool.and_eq_true] at h
      have hq2 : (dgB d && areP d [nn]) = true := by simp only [areP, List.all_cons, List.all_nil, Bool.and_true, Bool.and_eq_true]; simp [h]
      rw [hq] at hq2; cases hq2))
    have HYES : Hid ((dgB d && areP d [nn]) = true → dgSomeB d nn vs = toldD (smK d nn vs vs.length)) := Lib.hid (fun hq => if_pos (by
      simp only [areP, List.all_cons, List.all_nil, Bool.and_true, Bool.and_eq_true] at hq ⊢
      simp [hq, q1]))
    have CO : Hid ((dgB d && areP d [nn]) = true → isP d nn = true) := Lib.hid (fun hq => by simp only [areP, List.all_cons, List.all_nil, Bool.and_true, Bool.and_eq_true] at hq; exact hq.2)
    have VL := Lib.hid (fun v0 => setV_long q1 v0)
    have VI := Lib.hid (fun j hj => setV_in (d := d) q1 j hj)
    have LV := Lib.hid (rd_len h2)
    have HD := Lib.hid (rd_max h2)
    have RV := Lib.hid (fun W (B : Below w.heap.size w W) => (rd_ints.1 (Mem.rd_on h2 B)).2)
    have NX := Lib.hid (fun base g k x W W1 W2 dk fk (h : AtSm d nn vs base g k x W W1 dk fk) hk x2 d2 f2 hM hB hp hv h1 h2 => atSm_next (W2 := W2) h hk (x2 := x2) (d2 := d2) (f2 := f2) hM hB hp hv h1 h2)
    have ST : Hid (∀ base g W, MkD W base g d false 0 → isP d nn = true → AtSm d nn vs base g 0 nn W W d false) := Lib.hid (fun base g W hM hp => ⟨by rw [Nat.zero_mul]; exact hM, Below.refl _ _, hp, rfl, fun _ => rfl, fun h => by cases h⟩)
    generalize dgSomeB d nn vs = R at *
    obtain ⟨v, fs⟩ := d
    dsimp only [Fk.u] at *
    clear h1 q1
    have MK0 := MK.out _ B0
    simp only [World.size_alloc] at MK0
    go_enter Try.func33, Try.ntmps33
    go_wp2_with fail
    refine MK0.mono ?_
    rintro e w1 (⟨hq, rfl, b1'⟩ | ⟨hq, g, rfl, hm1, b1'⟩)
    · have b1 := below_call b1'
      have HT := Lib.hid (HNO.out hq)
      clear hq
      obtain ⟨B1, kb1, kr1⟩ := BX.out _ b1
      have x0 := kb1.cell 0
      have x1 := kb1.cell 1
      have f0 := kr1.frozen 0
      have f1 := kr1.frozen 1
      have y0 := kr1.cell 0
      have y1 := kr1.cell 1
      simp only [List.getElem?_cons_zero, List.getElem?_cons_succ] at x0 x1 y0 y1
      go_wp2
      have K2 := (kr1.set 0 (.int .i64 0)).set 1 (.slice none 0 0)
      have b8 := (B1.setCell (p := ⟨w.heap.size + 1, 0, none⟩) (Nat.le_succ _) (.int .i64 0)).setCell (p := ⟨w.heap.size + 1, 1, none⟩) (Nat.le_succ _) (.slice none 0 0)
      generalize (w1.setCell ⟨w.heap.size + 1, 0, none⟩ (.int .i64 0)).setCell ⟨w.heap.size + 1, 1, none⟩ (.slice none 0 0) = w8 at K2 b8 ⊢
      have r0 := K2.cell 0
      have r1 := K2.cell 1
      simp only [List.set_cons_zero, List.set_cons_succ, List.getElem?_cons_zero, List.getElem?_cons_succ] at r0 r1
      exact bodyPost_ret (v := .tuple #[.agg #[.int .i64 0, .slice none 0 0], .int .i64 (-1)]) (by simp [results, Try.results33, go_sem, r0, r1]) rfl (by rw [HT.out]; exact gives_dg_nil b8)
    · have hn0 := hm1.ok.few
      have hv0 := hm1.ok.lo
      have hv1 : _ ≤ (9000 : Int) := Int.le_trans hm1.ok.hi (by decide)
      dsimp only at hv0 hv1
      dsimp only at hn0
      have hn : fs.length ≤ 100000 := by omega
      have b1 := below_call b1'
      obtain ⟨B1, kb1, kr1⟩ := BX.out _ b1
      have x0 := kb1.cell 0
      have x1 := kb1.cell 1
      have f0 := kr1.frozen 0
      have f1 := kr1.frozen 1
      have y0 := kr1.cell 0
      have y1 := kr1.cell 1
      simp only [List.getElem?_cons_zero, List.getElem?_cons_succ] at x0 x1 y0 y1
      go_wp2_with fail
      refine (L1.out _ B1 hv0 hv1).mono ?_
      rintro e w2 ⟨rfl, c2⟩

      have b2 := b1.trans (c2.mono b1.size)
      obtain ⟨B2, kb2, kr2⟩ := BX.out _ b2
      have x0 := kb2.cell 0
      have x1 := kb2.cell 1
      have f0 := kr2.frozen 0
      have f1 := kr2.frozen 1
      have y0 := kr2.cell 0
      have y1 := kr2.cell 1
      simp only [List.getElem?_cons_zero, List.getElem?_cons_succ] at x0 x1 y0 y1
      have HT0 := Lib.hid (HYES.out hq)
      obtain ⟨base, hw, hM2, hs2⟩ : ∃ base, w.heap.size + 2 ≤ base ∧ MkD w2 base g ⟨v, fs⟩ false 0 ∧ base ≤ w2.heap.size := by
        refine ⟨_, ?_, mkD_below hm1 c2, Nat.le_trans b1'.size c2.size⟩
        first | omega | (simp only [World.size_alloc]; omega)
      have S0 := Lib.hid (ST.out base g w2 hM2 (CO.out hq))
      have vl := VL.out hv0
      have lv := LV.out
      have hv12 : v ≤ 12 := hm1.ok.hi
      have n12 : n2 ≤ 12 := by omega
      clear hq hm1 c2 b1 b1' hM2 kb1 kr1 MK0 L1 VL
      go_wp2
      go_loopg [1, 31] n2 (fun mm nv i wr => ∃ (k : Nat) (x : Int) (dk : Dg) (fk : Bool), k + mm = n2 ∧ i = .int .i64 k ∧ nv = .int .i64 x ∧ Hid (AtSm ⟨v, fs⟩ nn vs base g k x w2 wr dk fk))
      case atStart => exact ⟨0, nn, ⟨v, fs⟩, false, by omega, rfl, rfl, S0⟩
      case round =>
        clear x0 x1 f0 f1 y0 y1 S0 kb2 kr2
        obtain ⟨k, x, dk, fk, hk, rfl, rfl, HS⟩ := hrel
        have c7 := HS.out.2.1
        have hsz : base ≤ wr.heap.size := Nat.le_trans hs2 c7.size
        have b7 := b2.trans (c7.mono (by first | omega | (simp only [World.size_alloc]; omega)))
        obtain ⟨B7, kb7, kr7⟩ := BX.out _ b7
        by_cases hlt : k < n2
        · obtain ⟨ad, rfl, hbl, hc⟩ := (RV.out _ B7).int hlt
          have vin := VI.out k (by omega)
          have hvk : varIn dk (ix vs k) = true := by unfold varIn; rw [HS.out.2.2.2.1]; exact vin
          have SM := Lib.hid (some_any dk x (ix vs k) fk (k * 4782969) base g wr HS.out.1 hsz HS.out.2.2.1 hvk (by omega))
          have kn : (k : Int) < n2 := by omega
          clear kb7 kr7 vin hvk c7
          go_wp2_with fail
          refine SM.out.mono ?_
          rintro e w8 ⟨x2, d2, f2, rfl, M2, C2, p2, v2, q2, o2⟩
          have HN := Lib.hid (NX.out base g k x w2 wr w8 dk fk HS.out (by omega) x2 d2 f2 M2 C2 p2 v2 q2 o2)
          clear M2 C2 p2 v2 q2 o2 HS
          go_wp2
          go_roundg (n2 - (k + 1))
          case measure => omega
          case rel => exact ⟨k + 1, x2, d2, f2, by omega, by go_num, rfl, HN⟩
        · obtain rfl : k = n2 := by omega
          have kn : ¬ (k : Int) < k := by omega
          obtain ⟨hm7, _, px7, ev, SN, SF⟩ := HS.out
          rw [lv] at SF HT0
          obtain ⟨rm, rg⟩ := dk
          dsimp only at ev
          subst ev
          have x0 := kb7.cell 0
          have x1 := kb7.cell 1
          have f0 := kr7.frozen 0
          have f1 := kr7.frozen 1
          have y0 := kr7.cell 0
          have y1 := kr7.cell 1
          simp only [List.getElem?_cons_zero, List.getElem?_cons_succ] at x0 x1 y0 y1
          clear HS NX ST RV VI
          cases fk
          · have hcore := SN rfl
            have hx7 := (isP_iff.1 px7).1
            have HT := Lib.hid (HT0.out.trans ((congrArg toldD hcore).trans (if_neg (by show ¬ x < 0; omega))))
            have few7 := hm7.ok.few
            clear hcore HT0 SN
            dsimp only at few7
            go_wp2_with fail
            refine (toldP_yes _ x _ g _ _ hm7).mono ?_
            rintro e w9 ⟨A7, c7, rfl, o9, d9⟩
            dsimp only at o9
            have b9 := b7.trans (d9.mono b7.size)
            obtain ⟨B9, kb9, kr9⟩ := BX.out _ b9
            have x0 := kb9.cell 0
            have x1 := kb9.cell 1
            have f0 := kr9.frozen 0
            have f1 := kr9.frozen 1
            have y0 := kr9.cell 0
            have y1 := kr9.cell 1
            simp only [List.getElem?_cons_zero, List.getElem?_cons_succ] at x0 x1 y0 y1
            have n9 : (Value.slice A7 (rg).length c7).ownBlock ≠ some (w.heap.size + 1) := fun e => by have := (o9.lt _ e).1; (try simp only [World.size_alloc] at this); omega
            go_wp2
            have K2 := (kr9.set 0 (.int .i64 rm)).set 1 (.slice A7 (rg).length c7)
            have o8 := own_away (own_away o9 (p := ⟨w.heap.size + 1, 0, none⟩) (.int .i64 rm) n9) (p := ⟨w.heap.size + 1, 1, none⟩) (.slice A7 (rg).length c7) n9
            have b8 := (B9.setCell (p := ⟨w.heap.size + 1, 0, none⟩) (Nat.le_succ _) (.int .i64 rm)).setCell (p := ⟨w.heap.size + 1, 1, none⟩) (Nat.le_succ _) (.slice A7 (rg).length c7)
            generalize (w9.setCell ⟨w.heap.size + 1, 0, none⟩ (.int .i64 rm)).setCell ⟨w.heap.size + 1, 1, none⟩ (.slice A7 (rg).length c7) = w8 at K2 b8 o8 ⊢
            have r0 := K2.cell 0
            have r1 := K2.cell 1
            simp only [List.set_cons_zero, List.set_cons_succ, List.getElem?_cons_zero, List.getElem?_cons_succ] at r0 r1
            obtain ⟨fp, q1, q2, q3⟩ := own_flat (α := Fk) o8 rfl (by unfold maxLen; have := few7; omega)
            exact bodyPost_ret (v := .tuple #[.agg #[.int .i64 rm, .slice A7 (rg).length c7], .int .i64 x]) (by simp [results, Try.results33, go_sem, r0, r1]) rfl (by rw [HT.out]; exact ⟨A7, _, c7, fp, rfl, q1, q2, fun x hx => by have := q3 x hx; have := B0.size; omega, b8⟩)
          · have HT := Lib.hid (HT0.out.trans (if_pos (SF rfl)))
            clear HT0 SN
            go_wp2_with fail
            refine (toldP_no _ x _ g _ _ hm7).mono ?_
            rintro e w9 ⟨rfl, d9⟩
            have b9 := b7.trans (d9.mono b7.size)
            obtain ⟨B9, kb9, kr9⟩ := BX.out _ b9
            have x0 := kb9.cell 0
            have x1 := kb9.cell 1
            have f0 := kr9.frozen 0
            have f1 := kr9.frozen 1
            have y0 := kr9.cell 0
            have y1 := kr9.cell 1
            simp only [List.getElem?_cons_zero, List.getElem?_cons_succ] at x0 x1 y0 y1
            go_wp2
            have K2 := (kr9.set 0 (.int .i64 0)).set 1 (.slice none 0 0)
            have b8 := (B9.setCell (p := ⟨w.heap.size + 1, 0, none⟩) (Nat.le_succ _) (.int .i64 0)).setCell (p := ⟨w.heap.size + 1, 1, none⟩) (Nat.le_succ _) (.slice none 0 0)
            generalize (w9.setCell ⟨w.heap.size + 1, 0, none⟩ (.int .i64 0)).setCell ⟨w.heap.size + 1, 1, none⟩ (.slice none 0 0) = w8 at K2 b8 ⊢
            have r0 := K2.cell 0
            have r1 := K2.cell 1
            simp only [List.set_cons_zero, List.set_cons_succ, List.getElem?_cons_zero, List.getElem?_cons_succ] at r0 r1
            exact bodyPost_ret (v := .tuple #[.agg #[.int .i64 0, .slice none 0 0], .int .i64 (-1)]) (by simp [results, Try.results33, go_sem, r0, r1]) rfl (by rw [HT.out]; exact gives_dg_nil b8)
end Go.Proofs.Ytnpdeliaefjmlaa
