/-
  What is closed of the row: one fact at a time.
-/
import Derived.Test.YtgonbicpehjogaaGreatDoorLo
import Derived.Conc.Holds
import Derived.LaidMore
import Derived.Stop.Joined
namespace Go.Proofs.YtgonbicpehjogaaGreatDoor
open Go Go.ChangeShapes Go.WideShapes
set_option maxRecDepth 100000
theorem jk0 : (Rows.runMergesRow.wf (OpenSpec.ofChange Rows.runMergesSpec)) = true := by kernel_rfl
theorem jk1 : (laidOutB Tryz.pinned.checked.prog) = true := laidOut
theorem jk2 : (mapsRowed Tryz.pinned.checked.prog) = true := by kernel_rfl
theorem jk3 : (Tryz.f3.params.all (Tryz.pinned.checked.prog.readableRec ·)) = true := by kernel_rfl
theorem jk4 : (namedTie Tryz.pinned.checked.prog Rows.runMergesRow.named Rows.runMergesSpec.vars) = true := by kernel_rfl
theorem jk5 : ((Rows.runMergesRow.stops == [])) = true := by kernel_rfl
theorem jk6 : ((Tryz.pinned.checked.prog.stops == [])) = true := by kernel_rfl
theorem jk7 : ((Rows.runMergesRow.knobs == [])) = true := by kernel_rfl
theorem jk8 : ((Tryz.pinned.checked.prog.stopKnobs == [])) = true := by kernel_rfl
end Go.Proofs.YtgonbicpehjogaaGreatDoor
