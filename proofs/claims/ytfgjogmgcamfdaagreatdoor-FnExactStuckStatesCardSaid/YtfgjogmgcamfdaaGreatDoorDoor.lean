/- The library's table, as the program's start lays it. -/
import Derived.Test.YtfgjogmgcamfdaaGreatDoorWl
import Derived.Test.YtfgjogmgcamfdaaGreatDoorCards
import Derived.Test.YtfgjogmgcamfdaaGreatDoorTie
import Derived.LaidMore
import Derived.OpenShut
import Derived.Stop.Joined
import Derived.SevenTiedAt
import Derived.Lib.LaidTab
import Derived.LaidHandle
import Derived.MakeChecks
namespace Go.Proofs.YtfgjogmgcamfdaaGreatDoor
open Go.RowKit

def laid1 : List (String × DataW Unit) := [("math/bits.deBruijn64tab", Rows.laid_math_bits_deBruijn64tab)]
theorem door_own : ownKnob Tryz.prog.godebug = none := by kernel_rfl
theorem door_g : Tryz.prog.globalNamed "math/bits.deBruijn64tab" = some 0 := by kernel_rfl
theorem door_t : (Tryz.prog.globals[0]?).map (·.type) = some 140 := by kernel_rfl
theorem door_u : Tryz.prog.underlying 140 = some (.array 64 5) := by kernel_rfl
theorem door_e : Tryz.prog.underlying 5 = some (.int .u8) := by kernel_rfl
theorem door_ce : Tryz.prog.cellsOf 5 = 1 := by kernel_rfl
theorem door_ct : Tryz.prog.cellsOf 140 = 64 := by kernel_rfl
theorem door_tab : (Rows.laid_math_bits_deBruijn64tab : DataW Unit) = Lib.tabData .u8 (Lib.deBruijn64tab.map fun n : Nat => (n : Int)) := rfl
/-- The heap that the program's own start leaves meets the condition. -/
theorem door_met (os : Os) (args : Array Value) : laidMetH Tryz.prog laid1 ((World.doorLaid Tryz.prog 14 os).forCall (fun _ _ => 0) ⟨#[], args, []⟩).memory :=
  laidMetH_of_parts3 (fuel := 8) (laidMet_of_run' 8 (by kernel_rfl) (by kernel_rfl)) (by kernel_rfl) (by kernel_rfl)
theorem door_at {W : World} (h : laidMetH Tryz.prog laid1 W) : DoorAt W := by
  rw [MakeChecks.laidMetH_plain _ _ _ (by kernel_rfl)] at h
  unfold laid1 at h
  rw [door_tab] at h
  have hT := Lib.tabIs_of_head door_g door_t door_u door_e door_ce door_ct h
  have hc : ∀ j, j < 64 → W.cell? ⟨0, j, none⟩ = some (.int .u8 ((Lib.deBruijn64tab.getD j 0 : Nat) : Int)) := fun j hj => by
    have hl : (Lib.deBruijn64tab.map fun n : Nat => (n : Int)).length = 64 := rfl
    have := hT.cell door_g j (by rw [hl]; exact hj)
    rw [this]
    congr 2
    simp [List.getD]
    cases Lib.deBruijn64tab[j]? <;> rfl
  refine ⟨?_, fun j hj => hc j hj⟩
  have h0 := hc 0 (by omega)
  by_cases q : 0 < W.heap.size
  · exact q
  · have e : W.heap[0]? = none := Array.getElem?_eq_none (by omega)
    simp [World.cell?, e] at h0
end Go.Proofs.YtfgjogmgcamfdaaGreatDoor
