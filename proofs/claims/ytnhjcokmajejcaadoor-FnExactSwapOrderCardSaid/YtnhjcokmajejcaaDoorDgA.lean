/- Diagrams: AddFork, in the model and in the program. -/
import Derived.Test.YtnhjcokmajejcaaDoorDgL
import Derived.Test.YtnhjcokmajejcaaDoorDgK
namespace Go.Proofs.YtnhjcokmajejcaaDoor
open Go.RowKit
set_option maxRecDepth 100000

/-- The call gives a diagram of its own and a place. -/
def GivesDgN (w : World) (s : Dg) (x : Int) (e : Ending) (w' : World) : Prop :=
  ∃ A1 n1 c1 f1, e = .returned (.tuple #[.agg #[.int .i64 s.vars, .slice A1 n1 c1], .int .i64 x]) ∧ Mem.own w' f1 [.slice A1 n1 c1] s.forks ∧ f1.Nodup ∧ (∀ b ∈ f1, w.heap.size ≤ b) ∧ Below w.heap.size w w'
theorem gives_dg_nil {w w' : World} (b : Below w.heap.size w w') : GivesDgN w ⟨0, []⟩ (-1) (.returned (.tuple #[.agg #[.int .i64 0, .slice none 0 0], .int .i64 (-1)])) w' :=
  ⟨none, 0, 0, [], rfl, ⟨none, 0, 0, rfl, Nat.zero_le _, rfl, .inl ⟨rfl, rfl⟩⟩, List.nodup_nil, by simp, b⟩
def toldD (r : Dg × Int) : Dg × Int := if r.2 < 0 then (⟨0, []⟩, -1) else r
theorem toldD_len {r : Dg × Int} (h : 0 ≤ r.2 → r.1.forks.length ≤ 2000) : (toldD r).1.forks.length ≤ 1048576 := by
  unfold toldD
  split
  · simp
  · exact Nat.le_trans (h (by omega)) (by omega)
theorem l8Told_no (m : Int) (A : Option Addr) (n c : Nat) (x : Int) (w : World) (hx : x < 0) :
    Calls Tryd.prog 39 #[.agg #[.int .i64 m, .slice A n c], .int .i64 x] w (fun e w' => e = .returned (.tuple #[.agg #[.int .i64 0, .slice none 0 0], .int .i64 (-1)]) ∧ Below w.heap.size w w') := by
  go_enter Tryd.func39, Tryd.ntmps39
  go_wp2
  exact bodyPost_ret (v := .tuple #[.agg #[.int .i64 0, .slice none 0 0], .int .i64 (-1)]) (by simp [results, Tryd.results39, go_sem]) rfl ⟨rfl, ((Below.refl _ w).alloc (Nat.le_refl _) _).alloc (by simp) _⟩
theorem l8Told_yes (m : Int) (A : Option Addr) (n c : Nat) (x : Int) (w : World) (hx : ¬ x < 0) :
    Calls Tryd.prog 39 #[.agg #[.int .i64 m, .slice A n c], .int .i64 x] w (fun e w' => e = .returned (.tuple #[.agg #[.int .i64 m, .slice A n c], .int .i64 x]) ∧ Below w.heap.size w w') := by
  go_enter Tryd.func39, Tryd.ntmps39
  go_wp2
  exact bodyPost_ret (v := .tuple #[.agg #[.int .i64 m, .slice A n c], .int .i64 x]) (by simp [results, Tryd.results39, go_sem]) rfl ⟨rfl, ((Below.refl _ w).alloc (Nat.le_refl _) _).alloc (by simp) _⟩
theorem toldP_no (d : Dg) (x : Int) (base g m : Nat) (w : World) (hM : MkD w base g d true m) :
    Calls Tryd.prog 72 #[.pointer (some ⟨g, 0, none⟩), .int .i64 x] w (fun e w' => e = .returned (.tuple #[.agg #[.int .i64 0, .slice none 0 0], .int .i64 (-1)]) ∧ Below w.heap.size w w') := by
  obtain ⟨A, cc, bp, cp, Dp, br, cr, Dr, kg, _⟩ := hM.mem
  have lg := kg.lt
  have z4 := kg.cell 4
  simp only [List.getElem?_cons_zero, List.getElem?_cons_succ] at z4
  clear kg
  go_enter Tryd.func72, Tryd.ntmps72
  go_wp2
  exact bodyPost_ret (v := .tuple #[.agg #[.int .i64 0, .slice none 0 0], .int .i64 (-1)]) (by simp [results, Tryd.results72, go_sem]) rfl ⟨rfl, below_alloc _ _⟩
theorem toldP_yes (d : Dg) (x : Int) (base g m : Nat) (w : World) (hM : MkD w base g d false m) :
    Calls Tryd.prog 72 #[.pointer (some ⟨g, 0, none⟩), .int .i64 x] w (fun e w' => ∃ A c, e = .returned (.tuple #[.agg #[.int .i64 d.vars, .slice A d.forks.length c], .int .i64 x]) ∧ w'.ownsRow base 108 3 (.slice A d.forks.length c) d.forks.length (fl d.forks) ∧ Below w.heap.size w w') := by
  obtain ⟨A, cc, bp, cp, Dp, br, cr, Dr, kg, ho, _⟩ := hM.mem
  have lg := kg.lt
  have z0 := kg.cell 0
  have z1 := kg.cell 1
  have z4 := kg.cell 4
  simp only [List.getElem?_cons_zero, List.getElem?_cons_succ] at z0 z1 z4
  obtain ⟨v, fs⟩ := d
  dsimp only at *
  have HO := Lib.hid ho
  clear kg ho hM
  go_enter Tryd.func72, Tryd.ntmps72
  go_wp2
  exact bodyPost_ret (v := .tuple #[.agg #[.int .i64 v, .slice A fs.length cc], .int .i64 x]) (by simp [results, Tryd.results72, go_sem]) rfl ⟨A, cc, rfl, HO.out.alloc _, below_alloc _ _⟩

noncomputable def addForkB (d : Dg) (vr lo hi : Int) : Dg × Int := if (dgB d && fitX d ⟨vr, lo, hi⟩ (d.forks.length + 1)) = true then toldD (adF d ⟨vr, lo, hi⟩) else (⟨0, []⟩, -1)
theorem fitsX_any (d : Dg) (A : Option Addr) (c : Nat) (f : Fk) (w : World) (h : Mem.rd w w.heap.size [.slice A d.forks.length c] d.forks) (hn : d.forks.length ≤ 100000) :
    Calls Tryd.prog 89 #[.agg #[.int .i64 d.vars, .slice A d.forks.length c], f.u] w (GivesBool w (fitX d f (d.forks.length + 1))) := by
  have e : fitX d f (d.forks.length + 1) = fitB d f := Bool.eq_iff_iff.2 (fitX_iff.trans fitB_iff.symm)
  rw [e]; exact fits_any d A c f w h hn
noncomputable def addFork1 (d : Dg) (vr lo hi : Int) : Dg := (addForkB d vr lo hi).1
noncomputable def addFork2 (d : Dg) (vr lo hi : Int) : Int := (addForkB d vr lo hi).2
theorem addFork1_len (d : Dg) (vr lo hi : Int) : (addFork1 d vr lo hi).forks.length ≤ 1048576 := by
  unfold addFork1 addForkB
  split
  · rename_i h
    rw [Bool.and_eq_true] at h
    exact toldD_len (fun hx => (adF_ok (dgB_iff.1 h.1) (fitX_iff.1 h.2) hx).2.1.few)
  · simp

end Go.Proofs.YtnhjcokmajejcaaDoor
