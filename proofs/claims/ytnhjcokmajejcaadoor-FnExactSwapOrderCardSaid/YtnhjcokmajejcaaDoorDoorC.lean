/- The circuits' table of columns, as the program's start lays it. -/
import Derived.Test.YtnhjcokmajejcaaDoorCiW
import Derived.Test.YtnhjcokmajejcaaDoorDoP
import Derived.Test.YtnhjcokmajejcaaDoorCards
import Derived.Test.YtnhjcokmajejcaaDoorTie
import Derived.LaidMore
import Derived.OpenShut
import Derived.Stop.Joined
import Derived.SevenTiedAt
import Derived.Lib.LaidTab
import Derived.LaidHandle
import Derived.MakeChecks
namespace Go.Proofs.YtnhjcokmajejcaaDoor
open Go.RowKit

def colsTab : List Int := [12297829382473034410, 14757395258967641292, 17361641481138401520, 18374966859414961920, 18446462603027742720, 18446744069414584320]
/-- The table is there, and will be. -/
def DoorAt (w : World) : Prop := 0 < w.heap.size ∧ ∀ j, j < 6 → w.cell? ⟨0, j, none⟩ = some (.int .u64 (colsTab.getD j 0))
theorem DoorAt.on {w w' : World} (h : DoorAt w) (hb : Below w.heap.size w w') : DoorAt w' :=
  ⟨Nat.lt_of_lt_of_le h.1 hb.size, fun j hj => (hb.cell (p := ⟨0, j, none⟩) h.1).trans (h.2 j hj)⟩
theorem DoorAt.on_alloc {w : World} (h : DoorAt w) (o : Obj) : DoorAt (w.alloc o) := h.on (below_alloc w o)
theorem DoorAt.drew {w : World} (h : DoorAt w) : DoorAt w.drew := h
def laid1 : List (String × DataW Unit) := [("loop.example/wholecheck/impl.firstColumns", Rows.laid_loop_example_wholecheck_impl_firstColumns)]
theorem door_own : ownKnob Tryd.prog.godebug = none := by kernel_rfl
theorem door_g : Tryd.prog.globalNamed "loop.example/wholecheck/impl.firstColumns" = some 0 := by kernel_rfl
theorem door_t : (Tryd.prog.globals[0]?).map (·.type) = some 125 := by kernel_rfl
theorem door_u : Tryd.prog.underlying 125 = some (.array 6 64) := by kernel_rfl
theorem door_e : Tryd.prog.underlying 64 = some (.int .u64) := by kernel_rfl
theorem door_ce : Tryd.prog.cellsOf 64 = 1 := by kernel_rfl
theorem door_ct : Tryd.prog.cellsOf 125 = 6 := by kernel_rfl
theorem door_tab : (Rows.laid_loop_example_wholecheck_impl_firstColumns : DataW Unit) = Lib.tabData .u64 colsTab := rfl
/-- The heap that the program's own start leaves meets the condition. -/
theorem door_met (os : Os) (args : Array Value) : laidMetH Tryd.prog laid1 ((World.doorLaid Tryd.prog 14 os).forCall (fun _ _ => 0) ⟨#[], args, []⟩).memory :=
  laidMetH_of_parts3 (fuel := 8) (laidMet_of_run' 8 (by kernel_rfl) (by kernel_rfl)) (by kernel_rfl) (by kernel_rfl)
theorem door_at {W : World} (h : laidMetH Tryd.prog laid1 W) : DoorAt W := by
  rw [MakeChecks.laidMetH_plain _ _ _ (by kernel_rfl)] at h
  unfold laid1 at h
  rw [door_tab] at h
  have hT := Lib.tabIs_of_head door_g door_t door_u door_e door_ce door_ct h
  have hc : ∀ j, j < 6 → W.cell? ⟨0, j, none⟩ = some (.int .u64 (colsTab.getD j 0)) := fun j hj => hT.cell door_g j (by exact hj)
  refine ⟨?_, hc⟩
  have h0 := hc 0 (by omega)
  by_cases q : 0 < W.heap.size
  · exact q
  · have e : W.heap[0]? = none := Array.getElem?_eq_none (by omega)
    simp [World.cell?, e] at h0
/-- The table is the program's own: it is read, and stays. -/
theorem vars_one {H : Type} {enc : TypeId × Value → H} {W : World} {spare : Nat → Bool} {n : String} {gs : List (DataW H)} {ps : List MemPlace} (h : DataW.TrodVars enc Tryd.prog W spare [n] gs ps) : ∃ d, gs = [d] := by
  obtain ⟨_, _, _, _, d, _, e, _⟩ := ChangeShapes.trodVars_one h
  exact ⟨d, e⟩
theorem vars_stay {H : Type} {enc : TypeId × Value → H} {W W' : World} {sp : Nat → Bool} {gs : List (DataW H)} {ps : List MemPlace} (h : DataW.TrodVars enc Tryd.prog W (fun _ => true) ["loop.example/wholecheck/impl.firstColumns"] gs ps) (hb : Below W.heap.size W W')
    (hlt : ∀ x ∈ ps, x.block < W.heap.size) (hsp : ∀ x ∈ ps, sp x.block = true) : DataW.TrodVars enc Tryd.prog W' sp ["loop.example/wholecheck/impl.firstColumns"] gs ps := by
  obtain ⟨g, t, cs, fuel, d, p, rfl, hg, ht, hvar, hd, rfl⟩ := ChangeShapes.trodVars_one h
  obtain rfl := Option.some.inj (door_g.symm.trans hg)
  obtain rfl := Option.some.inj (door_t.symm.trans ht)
  have hz : 0 < W.heap.size := by
    by_cases q : 0 < W.heap.size
    · exact q
    · have e : W.heap[0]? = none := Array.getElem?_eq_none (by omega)
      simp only [World.var?, hg, Option.bind_some, e] at hvar
      cases hvar
  have hvar' : W'.var? Tryd.prog "loop.example/wholecheck/impl.firstColumns" = some cs := by
    simp only [World.var?, hg, Option.bind_some] at hvar ⊢
    rw [hb.block 0 hz]
    exact hvar
  obtain ⟨fuel', hd'⟩ := WideElems.Trod_stays (sp' := sp) Tryd.laidOut (by kernel_rfl) (of_decide_eq_true (by kernel_rfl)) (show DataW.Trod enc Tryd.prog W 0 (fun _ => true) true 125 (.agg cs) d p from ⟨fuel, hd⟩) (fun x hx => hb.same (hlt x (by simp [hx]))) (fun x hx => hsp x (by simp [hx]))
  exact ChangeShapes.trodVars_mk1 hg ht hvar' hd'
/-- The table's words are those of the first inputs. -/
theorem tab_col (b : Nat) {i : Nat} (h : i < 6) : colsTab.getD i 0 = ((fw (colB b i) : Nat) : Int) := by
  have key : ∀ i, i < 6 → colsTab.getD i 0 = ((fw (fun j => j.testBit i) : Nat) : Int) := by decide
  rw [key i h]
  congr 2
  funext j
  unfold colB
  rw [if_pos h]
end Go.Proofs.YtnhjcokmajejcaaDoor
