/- Circuits that are made: AddAnd and AddOr, in the model. -/
import Derived.Test.YtnhjcokmajejcaaMkX
namespace Go.Proofs.Ytnhjcokmajejcaa
open Go.RowKit
set_option maxRecDepth 100000

/-- The call gives a circuit of its own and an edge. -/
def GivesCiN (w : World) (s : Ci) (x : Int) (e : Ending) (w' : World) : Prop :=
  ∃ A1 n1 c1 f1, e = .returned (.tuple #[.agg #[.int .i64 s.ins, .slice A1 n1 c1], .int .i64 x]) ∧ Mem.own w' f1 [.slice A1 n1 c1] s.gates ∧ f1.Nodup ∧ (∀ b ∈ f1, w.heap.size ≤ b) ∧ Below w.heap.size w w'
theorem gives_ci_nil {w w' : World} (b : Below w.heap.size w w') : GivesCiN w ⟨0, []⟩ (-1) (.returned (.tuple #[.agg #[.int .i64 0, .slice none 0 0], .int .i64 (-1)])) w' :=
  ⟨none, 0, 0, [], rfl, ⟨none, 0, 0, rfl, Nat.zero_le _, rfl, .inl ⟨rfl, rfl⟩⟩, List.nodup_nil, by simp, b⟩
/-- An edge that is added, if these are edges. -/
noncomputable def addB (f : Ci → Ci × Int) (s : Ci) (l : List Int) : Ci × Int := if (ckB s && areE s l) = true then toldB (f s) else (⟨0, []⟩, -1)
theorem addB_no {f : Ci → Ci × Int} {s : Ci} {l : List Int} (h : (ckB s && areE s l) = false) : addB f s l = (⟨0, []⟩, -1) := if_neg (by rw [h]; simp)
theorem addB_yes {f : Ci → Ci × Int} {s : Ci} {l : List Int} (h : (ckB s && areE s l) = true) : addB f s l = toldB (f s) := if_pos h
theorem andB_lo {s : Ci} {a b : Int} (h : Gd s) (a0 : 0 ≤ a) (a1 : a < 2000) (b0 : 0 ≤ b) (b1 : b < 2000) : -1 ≤ (andB s a b).2 := (andB_gd h a0 a1 b0 b1).2.2.1
theorem orB_lo {s : Ci} {a b : Int} (h : Gd s) (a0 : 0 ≤ a) (a1 : a < 2000) (b0 : 0 ≤ b) (b1 : b < 2000) : -1 ≤ (orB s a b).2 := by
  have na := notE_lo (e := a) (by omega)
  have nb := notE_lo (e := b) (by omega)
  exact (notE_lo (andB_gd h (na.2.2 a0) (notE_hi a1) (nb.2.2 b0) (notE_hi b1)).2.2.1).1
theorem andB_few {s : Ci} {a b : Int} (h : Gd s) (a0 : 0 ≤ a) (a1 : a < 2000) (b0 : 0 ≤ b) (b1 : b < 2000) : (andB s a b).1.gates.length ≤ 600 := (andB_gd h a0 a1 b0 b1).1.few
theorem orB_few {s : Ci} {a b : Int} (h : Gd s) (a0 : 0 ≤ a) (a1 : a < 2000) (b0 : 0 ≤ b) (b1 : b < 2000) : (orB s a b).1.gates.length ≤ 600 := by
  have na := notE_lo (e := a) (by omega)
  have nb := notE_lo (e := b) (by omega)
  exact (andB_gd h (na.2.2 a0) (notE_hi a1) (nb.2.2 b0) (notE_hi b1)).1.few
theorem l7And_w (s : Ci) (A : Option Addr) (c : Nat) (a b : Int) (base : Nat) (w : World) (ho : w.ownsRow base 90 2 (.slice A s.gates.length c) s.gates.length (fl s.gates)) (hb : base ≤ w.heap.size) (a0 : 0 ≤ a) (a1 : a < 2000) (b0 : 0 ≤ b) (b1 : b < 2000) (h : Gd s) :
    Calls Try.prog 52 #[.agg #[.int .i64 s.ins, .slice A s.gates.length c], .int .i64 a, .int .i64 b] w (GivesCW base (bl (.slice A s.gates.length c)) w (andB s a b)) := (l7And_any s A c a b base w ho hb a0 a1 b0 b1 h).mono fun _ _ q => q.cw
noncomputable def addAndB (s : Ci) (a b : Int) : Ci × Int := addB (fun s => andB s a b) s [a, b]
noncomputable def addOrB (s : Ci) (a b : Int) : Ci × Int := addB (fun s => orB s a b) s [a, b]
end Go.Proofs.Ytnhjcokmajejcaa
