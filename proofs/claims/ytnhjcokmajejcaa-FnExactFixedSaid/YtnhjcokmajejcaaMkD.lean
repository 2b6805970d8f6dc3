/- Circuits that are made: the maker's or, pick and told, in the program. -/
import Derived.Test.YtnhjcokmajejcaaMkC
import Derived.Test.YtnhjcokmajejcaaMkX
namespace Go.Proofs.Ytnhjcokmajejcaa
open Go.RowKit
set_option maxRecDepth 100000

/-- The call gives an edge and leaves a maker, which is full if there was no room. -/
def GivesME (base g : Nat) (r : Ci × Int) (full : Bool) (w : World) (e : Ending) (w' : World) : Prop :=
  ∃ x c' f', e = .returned (.int .i64 x) ∧ MkAt w' base g c' f' ∧ Gd c' ∧ 0 ≤ x ∧ x < 2000 ∧ Below base w w' ∧ (full = false → 0 ≤ r.2 → f' = false ∧ c' = r.1 ∧ x = r.2) ∧ (full = true ∨ r.2 < 0 → f' = true)
theorem and_mkF (s : Ci) (full : Bool) (a b : Int) (base g : Nat) (w : World) (hM : MkAt w base g s full) (hb : base ≤ w.heap.size) (h : Gd s) (a0 : 0 ≤ a) (a1 : a < 2000) (b0 : 0 ≤ b) (b1 : b < 2000) :
    Calls Try.prog 58 #[.pointer (some ⟨g, 0, none⟩), .int .i64 a, .int .i64 b] w (fun e w' => GivesME base g (andB s a b) full w e w' ∧ FrameC g w w') := by
  have gd := andB_gd h a0 a1 b0 b1
  have key : ∀ lo hi, 0 ≤ lo → hi < 2000 → ((a = lo ∧ b = hi ∧ lo ≤ hi) ∨ (a = hi ∧ b = lo ∧ lo < hi)) → Calls Try.prog 58 #[.pointer (some ⟨g, 0, none⟩), .int .i64 a, .int .i64 b] w (GivesMk base g (andR s lo hi).1 (full || decide ((andR s lo hi).2 < 0)) (edV (andR s lo hi).2) w) := fun lo hi l0 h2 hs => by
    by_cases hq : (lo = 0 ∨ (lo / 2 = hi / 2 ∧ lo ≠ hi)) ∨ (lo = 1 ∨ lo = hi)
    · obtain ⟨e, he⟩ : ∃ e, andR s lo hi = (s, e) := by
        unfold andR
        by_cases q1 : lo = 0 ∨ (lo / 2 = hi / 2 ∧ lo ≠ hi)
        · exact ⟨_, if_pos q1⟩
        · rw [if_neg q1]
          exact ⟨_, if_pos (hq.resolve_left q1)⟩
      exact and_quick s full a b lo hi base g w hM l0 h2 hs e he hq
    · exact and_find s full a b lo hi base g w hM hb h l0 h2 hs hq
  have key2 : Calls Try.prog 58 #[.pointer (some ⟨g, 0, none⟩), .int .i64 a, .int .i64 b] w (GivesMk base g (andB s a b).1 (full || decide ((andB s a b).2 < 0)) (edV (andB s a b).2) w) := by
    unfold andB
    by_cases q : a ≤ b
    · rw [if_pos q]; exact key a b a0 b1 (.inl ⟨rfl, rfl, q⟩)
    · rw [if_neg q]; exact key b a b0 a1 (.inr ⟨rfl, rfl, by omega⟩)
  refine key2.mono ?_
  rintro e w' ⟨rfl, hm, hbl, hfr⟩
  refine ⟨⟨_, _, _, rfl, hm, gd.1, ?_, ?_, hbl, fun hf hr => ⟨?_, rfl, ?_⟩, fun hf => ?_⟩, hfr⟩
  · unfold edV; split <;> omega
  · unfold edV; split <;> omega
  · rw [hf, decide_eq_false (by omega)]; rfl
  · unfold edV; rw [if_neg (by omega)]
  · rcases hf with hf | hf
    · rw [hf]; rfl
    · rw [decide_eq_true hf]; simp
theorem and_mk (s : Ci) (full : Bool) (a b : Int) (base g : Nat) (w : World) (hM : MkAt w base g s full) (hb : base ≤ w.heap.size) (h : Gd s) (a0 : 0 ≤ a) (a1 : a < 2000) (b0 : 0 ≤ b) (b1 : b < 2000) :
    Calls Try.prog 58 #[.pointer (some ⟨g, 0, none⟩), .int .i64 a, .int .i64 b] w (GivesME base g (andB s a b) full w) :=
  (and_mkF s full a b base g w hM hb h a0 a1 b0 b1).mono fun _ _ h => h.1

end Go.Proofs.Ytnhjcokmajejcaa
