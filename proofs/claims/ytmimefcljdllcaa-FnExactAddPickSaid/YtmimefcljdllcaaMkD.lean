/- Circuits that are made: the maker's or, pick and told, in the program. -/
import Derived.Test.YtmimefcljdllcaaMkC
import Derived.Test.YtmimefcljdllcaaMkX
namespace Go.Proofs.Ytmimefcljdllcaa
open Go.RowKit

/-- The call gives an edge and leaves a maker, which is full if there was no room. -/
def GivesME (base g : Nat) (r : Ci × Int) (full : Bool) (w : World) (e : Ending) (w' : World) : Prop :=
  ∃ x c' f', e = .returned (.int .i64 x) ∧ MkAt w' base g c' f' ∧ Gd c' ∧ 0 ≤ x ∧ x < 2000 ∧ Below base w w' ∧ (full = false → 0 ≤ r.2 → f' = false ∧ c' = r.1 ∧ x = r.2) ∧ (full = true ∨ r.2 < 0 → f' = true)
theorem and_mk (s : Ci) (full : Bool) (a b : Int) (base g : Nat) (w : World) (hM : MkAt w base g s full) (hb : base ≤ w.heap.size) (h : Gd s) (a0 : 0 ≤ a) (a1 : a < 2000) (b0 : 0 ≤ b) (b1 : b < 2000) :
    Calls Try.prog 57 #[.pointer (some ⟨g, 0, none⟩), .int .i64 a, .int .i64 b] w (GivesME base g (andB s a b) full w) := by
  have gd := andB_gd h a0 a1 b0 b1
  have key : ∀ lo hi, 0 ≤ lo → hi < 2000 → ((a = lo ∧ b = hi ∧ lo ≤ hi) ∨ (a = hi ∧ b = lo ∧ lo < hi)) → Calls Try.prog 57 #[.pointer (some ⟨g, 0, none⟩), .int .i64 a, .int .i64 b] w (GivesMk base g (andR s lo hi).1 (full || decide ((andR s lo hi).2 < 0)) (edV (andR s lo hi).2) w) := fun lo hi l0 h2 hs => by
    by_cases hq : (lo = 0 ∨ (lo / 2 = hi / 2 ∧ lo ≠ hi)) ∨ (lo = 1 ∨ lo = hi)
    · obtain ⟨e, he⟩ : ∃ e, andR s lo hi = (s, e) := by
        unfold andR
        by_cases q1 : lo = 0 ∨ (lo / 2 = hi / 2 ∧ lo ≠ hi)
        · exact ⟨_, if_pos q1⟩
        · rw [if_neg q1]
          exact ⟨_, if_pos (hq.resolve_left q1)⟩
      exact and_quick s full a b lo hi base g w hM l0 h2 hs e he hq
    · exact and_find s full a b lo hi base g w hM hb h l0 h2 hs hq
  have key2 : Calls Try.prog 57 #[.pointer (some ⟨g, 0, none⟩), .int .i64 a, .int .i64 b] w (GivesMk base g (andB s a b).1 (full || decide ((andB s a b).2 < 0)) (edV (andB s a b).2) w) := by
    unfold andB
    by_cases q : a ≤ b
    · rw [if_pos q]; exact key a b a0 b1 (.inl ⟨rfl, rfl, q⟩)
    · rw [if_neg q]; exact key b a b0 a1 (.inr ⟨rfl, rfl, by omega⟩)
  refine key2.mono ?_
  rintro e w' ⟨rfl, hm, hbl⟩
  refine ⟨_, _, _, rfl, hm, gd.1, ?_, ?_, hbl, fun hf hr => ⟨?_, rfl, ?_⟩, fun hf => ?_⟩
  · unfold edV; split <;> omega
  · unfold edV; split <;> omega
  · rw [hf, decide_eq_false (by omega)]; rfl
  · unfold edV; rw [if_neg (by omega)]
  · rcases hf with hf | hf
    · rw [hf]; rfl
    · rw [decide_eq_true hf]; simp

set_option maxHeartbeats 1000000 in
theorem or_mk (s : Ci) (full : Bool) (a b : Int) (base g : Nat) (w : World) (hM : MkAt w base g s full) (hb : base ≤ w.heap.size) (h : Gd s) (a0 : 0 ≤ a) (a1 : a < 2000) (b0 : 0 ≤ b) (b1 : b < 2000) :
    Calls Try.prog 60 #[.pointer (some ⟨g, 0, none⟩), .int .i64 a, .int .i64 b] w (GivesME base g (orB s a b) full w) := by
  have na := notE_lo (e := a) (by omega)
  have nb := notE_lo (e := b) (by omega)
  have na1 := notE_hi a1
  have nb1 := notE_hi b1
  have CE := Lib.hid (fun x W (x0 : 0 ≤ x) (x1 : x < 2000) => contrary_any x W x0 x1)
  have AN := Lib.hid (and_mk s full (notE a) (notE b) base g w hM hb h (na.2.2 a0) na1 (nb.2.2 b0) nb1)
  unfold orB
  generalize andB s (notE a) (notE b) = R at *
  obtain ⟨c, re⟩ := R
  clear hM na nb h
  go_enter Try.func60, Try.ntmps60
  go_wp2_with (first
    | (go_at_call 72; refine (CE.out _ _ (by assumption) (by assumption)).mono ?_; rintro e w3 ⟨rfl, rfl⟩)
    | (go_at_call 57; refine AN.out.mono ?_; rintro e w4 ⟨x, c', f', rfl, hm, hgd, x0, x1, hbl, h1, h2⟩))
  go_ret
  have nx := notE_lo (e := x) (by omega)
  have nx1 := notE_hi x1
  have nr : 0 ≤ notE re ↔ 0 ≤ re := by unfold notE; split <;> omega
  refine ⟨_, c', f', rfl, hm, hgd, nx.2.2 x0, nx1, hbl, fun hf hr => ?_, fun hf => h2 ?_⟩
  · obtain ⟨e1, e2, e3⟩ := h1 hf (nr.1 hr)
    exact ⟨e1, e2, by show notE x = notE re; rw [e3]⟩
  · rcases hf with hf | hf
    · exact .inl hf
    · right
      dsimp only at hf ⊢
      omega

set_option maxHeartbeats 1000000 in
theorem pick_mk (s : Ci) (full : Bool) (z y n : Int) (base g : Nat) (w : World) (hM : MkAt w base g s full) (hb : base ≤ w.heap.size) (h : Gd s) (z0 : 0 ≤ z) (z1 : z < 2000) (y0 : 0 ≤ y) (y1 : y < 2000) (n0 : 0 ≤ n) (n1 : n < 2000) :
    Calls Try.prog 62 #[.pointer (some ⟨g, 0, none⟩), .int .i64 z, .int .i64 y, .int .i64 n] w (GivesME base g (pickB s z y n) full w) := by
  by_cases hyn : y = n
  · have e : pickB s z y n = (s, y) := if_pos hyn
    rw [e]
    have g1 : (y == n) = true := by simp [hyn]
    clear e hyn
    go_enter Try.func62, Try.ntmps62
    go_wp2
    go_ret
    exact ⟨_, s, full, rfl, hM, h, y0, y1, Below.refl _ _, fun hf _ => ⟨hf, rfl, rfl⟩, fun hf => by
      rcases hf with hf | hf
      · exact hf
      · dsimp only at hf; omega⟩
  · have g1 : (y == n) = false := by simp [hyn]
    have nz := notE_lo (e := z) (by omega)
    have nz1 := notE_hi z1
    have CE := Lib.hid (fun x W (x0 : 0 ≤ x) (x1 : x < 2000) => contrary_any x W x0 x1)
    have A1 := Lib.hid (and_mk s full z y base g w hM hb h z0 z1 y0 y1)
    have A2 := Lib.hid (fun c f W (hm : MkAt W base g c f) (hB : base ≤ W.heap.size) (hg : Gd c) => and_mk c f (notE z) n base g W hm hB hg (nz.2.2 z0) nz1 n0 n1)
    have A3 := Lib.hid (fun c f p q W (hm : MkAt W base g c f) (hB : base ≤ W.heap.size) (hg : Gd c) p0 p1 q0 q1 => or_mk c f p q base g W hm hB hg p0 p1 q0 q1)
    have HP : Hid (pickB s z y n = if (andB s z y).2 < 0 then (s, -1) else if (andB (andB s z y).1 (notE z) n).2 < 0 then (s, -1) else orB (andB (andB s z y).1 (notE z) n).1 (andB s z y).2 (andB (andB s z y).1 (notE z) n).2) := Lib.hid (if_neg hyn)
    clear hyn hM h nz
    go_enter Try.func62, Try.ntmps62
    go_wp2_with fail
    refine A1.out.mono ?_
    rintro e w4 ⟨x1', c1, f1, rfl, hm1, hg1, p0, p1, b1, u1, v1⟩
    go_wp2_with (first
      | (go_at_call 72; refine (CE.out _ _ (by assumption) (by assumption)).mono ?_; rintro e w3 ⟨rfl, rfl⟩)
      | (go_at_call 57; refine (A2.out _ _ _ hm1 (Nat.le_trans hb b1.size) hg1).mono ?_; rintro e w5 ⟨x2', c2, f2, rfl, hm2, hg2, q0, q1, b2, u2, v2⟩)
      | (go_at_call 60; refine (A3.out _ _ _ _ _ hm2 (Nat.le_trans (Nat.le_trans hb b1.size) b2.size) hg2 p0 p1 q0 q1).mono ?_; rintro e w6 ⟨x3', c3, f3, rfl, hm3, hg3, r0, r1, b3, u3, v3⟩))
    go_ret
    refine ⟨_, c3, f3, rfl, hm3, hg3, r0, r1, (b1.trans b2).trans b3, fun hf hr => ?_, fun hf => ?_⟩
    · rw [HP.out] at hr ⊢
      by_cases t1 : (andB s z y).2 < 0
      · rw [if_pos t1] at hr; exact absurd hr (by show ¬ (0 : Int) ≤ -1; omega)
      · rw [if_neg t1] at hr ⊢
        obtain ⟨rfl, rfl, rfl⟩ := u1 hf (by omega)
        by_cases t2 : (andB (andB s z y).1 (notE z) n).2 < 0
        · rw [if_pos t2] at hr; exact absurd hr (by show ¬ (0 : Int) ≤ -1; omega)
        · rw [if_neg t2] at hr ⊢
          obtain ⟨rfl, rfl, rfl⟩ := u2 rfl (by omega)
          exact u3 rfl hr
    · rcases hf with hf | hf
      · exact v3 (.inl (v2 (.inl (v1 (.inl hf)))))
      · rw [HP.out] at hf
        by_cases t1 : (andB s z y).2 < 0
        · exact v3 (.inl (v2 (.inl (v1 (.inr t1)))))
        · rw [if_neg t1] at hf
          cases full with
          | true => exact v3 (.inl (v2 (.inl (v1 (.inl rfl)))))
          | false =>
            obtain ⟨rfl, rfl, rfl⟩ := u1 rfl (by omega)
            by_cases t2 : (andB (andB s z y).1 (notE z) n).2 < 0
            · exact v3 (.inl (v2 (.inr t2)))
            · rw [if_neg t2] at hf
              obtain ⟨rfl, rfl, rfl⟩ := u2 rfl (by omega)
              exact v3 (.inr hf)
end Go.Proofs.Ytmimefcljdllcaa
