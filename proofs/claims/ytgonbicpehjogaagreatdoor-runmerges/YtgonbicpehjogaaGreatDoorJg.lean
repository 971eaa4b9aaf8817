/-
  What is closed of the row, on.
-/
import Derived.Test.YtgonbicpehjogaaGreatDoorLo
import Derived.Conc.Holds
import Derived.LaidMore
import Derived.Stop.Joined
namespace Go.Proofs.YtgonbicpehjogaaGreatDoor
open Go Go.ChangeShapes Go.WideShapes
set_option maxRecDepth 100000
theorem jk9 : ((Rows.runMergesRow.inPlace == Tryz.pinned.checked.prog.inPlace 3)) = true := by kernel_rfl
theorem jk10 : ((Rows.runMergesRow.unfollowed == Tryz.pinned.checked.prog.unfollowed 3)) = true := by kernel_rfl
theorem jk11 : ((Rows.runMergesRow.recurses == Tryz.pinned.checked.prog.recurses 3)) = true := by kernel_rfl
theorem jk12 : ((Rows.runMergesRow.named == Tryz.pinned.checked.prog.varsNamed 3)) = true := by kernel_rfl
end Go.Proofs.YtgonbicpehjogaaGreatDoor
