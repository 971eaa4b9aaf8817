/-
  The card's closed facts.
-/
import Derived.Test.YtgonbicpehjogaaGreatDoorRows
import Derived.Test.YtgonbicpehjogaaGreatDoorCards
import Derived.Conc.Holds
import Derived.LaidMore
import Derived.Stop.Joined
import Derived.SevenTiedAt
import Derived.LaidByTextLater
namespace Go.Proofs.YtgonbicpehjogaaGreatDoor
open Go Go.ChangeShapes Go.WideShapes
set_option maxRecDepth 100000
theorem rm_wf : Rows.runMergesRow.wfByText (OpenSpec.ofChange Rows.runMergesSpec) = true := by kernel_rfl
theorem rm_main : Tryz.pinned.checked.prog.mainIs = some (((true, "bcba00b6c8f95d0613b59f464f90881c67d5b62b32b2dd96d29b872186073dec") : Bool × String).1, ((true, "bcba00b6c8f95d0613b59f464f90881c67d5b62b32b2dd96d29b872186073dec") : Bool × String).2.toList) := by kernel_rfl
theorem rm_fn : Tryz.prog.funcNamed "synod/synodlaw13.RunMerges" = some 3 := by kernel_rfl
theorem rm_stand : ([22].all fun u => !Tryz.prog.wantsStandIn u) = true := by kernel_rfl
end Go.Proofs.YtgonbicpehjogaaGreatDoor
