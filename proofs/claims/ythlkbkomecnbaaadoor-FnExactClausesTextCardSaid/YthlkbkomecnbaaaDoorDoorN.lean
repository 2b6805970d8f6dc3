/- The library's table of powers of ten, as the program's start lays it. -/
import Derived.Test.YthlkbkomecnbaaaDoorKinds
import Derived.Test.YthlkbkomecnbaaaDoorCards
import Derived.Test.YthlkbkomecnbaaaDoorTie
import Derived.LaidMore
import Derived.OpenShut
import Derived.Stop.Joined
import Derived.Stop.LaidErr
import Derived.SevenTiedAt
import Derived.Lib.LaidTab
import Derived.Lib.AppendIntMem
import Derived.LaidHandle
import Derived.MakeChecks
namespace Go.Proofs.YthlkbkomecnbaaaDoor
open Go.RowKit

/-- The table is there, and will be. -/
def DoorAt (w : World) : Prop := Lib.TabBelow Tryd.prog w.heap.size w "internal/strconv.uint64pow10" .u64 Lib.pow10Tab
theorem DoorAt.on {w w' : World} (h : DoorAt w) (hb : Below w.heap.size w w') : DoorAt w' := fun w2 h2 => h w2 (hb.trans (h2.mono hb.size))
theorem DoorAt.on_alloc {w : World} (h : DoorAt w) (o : Obj) : DoorAt (w.alloc o) := h.on (below_alloc w o)
theorem DoorAt.drew {w : World} (h : DoorAt w) : DoorAt w.drew := h.on ⟨rfl, rfl, rfl, Nat.le_refl _, fun _ _ => rfl⟩
def laid1 : List (String × DataW Unit) := [("math/bits.deBruijn32tab", Rows.laid_math_bits_deBruijn32tab), ("math/bits.deBruijn64tab", Rows.laid_math_bits_deBruijn64tab), ("internal/strconv.uint64pow10", Rows.laid_internal_strconv_uint64pow10)]
theorem door_own : ownKnob Tryd.prog.godebug = none := by kernel_rfl
theorem door_tab : (Rows.laid_internal_strconv_uint64pow10 : DataW Unit) = Lib.tabData .u64 Lib.pow10Tab := rfl
/-- The heap that the program's own start leaves meets the condition. -/
theorem door_met (os : Os) (args : Array Value) : laidMetH Tryd.prog laid1 ((World.doorLaid Tryd.prog 14 os).forCall (fun _ _ => 0) ⟨#[], args, []⟩).memory :=
  laidMetH_of_parts3 (fuel := 8) (laidMet_of_run' 8 (by kernel_rfl) (by kernel_rfl)) (by kernel_rfl) (by kernel_rfl)
theorem door_at {W : World} (h : laidMetH Tryd.prog laid1 W) : DoorAt W := by
  rw [MakeChecks.laidMetH_plain _ _ _ (by kernel_rfl)] at h
  unfold laid1 at h
  have h := h.tail.tail
  rw [door_tab] at h
  exact Lib.tabBelow_of_tabIs (Lib.tabIs_of_head (g := 0) (t := 66) (e := 60) (n := 20) (by kernel_rfl) (by kernel_rfl) (by kernel_rfl) (by kernel_rfl) (by kernel_rfl) (by kernel_rfl) h)
end Go.Proofs.YthlkbkomecnbaaaDoor
