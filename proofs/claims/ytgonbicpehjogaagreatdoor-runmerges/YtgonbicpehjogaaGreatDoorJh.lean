/-
  What is closed of the row, on.
-/
import Derived.Test.YtgonbicpehjogaaGreatDoorLo
import Derived.Conc.Holds
import Derived.LaidMore
import Derived.Stop.Joined
namespace Go.Proofs.YtgonbicpehjogaaGreatDoor
open Go Go.ChangeShapes Go.WideShapes
set_option maxRecDepth 100000
theorem jk13 : ((Rows.runMergesRow.maps == (Tryz.f3.params.toList ++ Rows.runMergesSpec.plain.varTypes Tryz.pinned.checked.prog).any (Tryz.pinned.checked.prog.mapsRec ·))) = true := by kernel_rfl
theorem jk14 : ((Rows.runMergesRow.ifaces == (Tryz.f3.params.toList ++ Rows.runMergesSpec.plain.varTypes Tryz.pinned.checked.prog).any (Tryz.pinned.checked.prog.ifacesRec ·))) = true := by kernel_rfl
theorem jk15 : ((Rows.runMergesRow.mapsOut == Tryz.pinned.checked.prog.mapsAmong Tryz.f3.resultTypes.toList)) = true := by kernel_rfl
theorem jk16 : ((Rows.runMergesRow.loops == (Tryz.f3.params.toList ++ Rows.runMergesSpec.plain.varTypes Tryz.pinned.checked.prog).any (Tryz.pinned.checked.prog.loopsFrom ·))) = true := by kernel_rfl
theorem jk17 : ((Rows.runMergesRow.wideKeys == (Tryz.f3.params.toList ++ Rows.runMergesSpec.plain.varTypes Tryz.pinned.checked.prog ++ Tryz.f3.resultTypes.toList).any (Tryz.pinned.checked.prog.wideKeysFrom ·))) = true := by kernel_rfl
theorem jk18 : (Rows.runMergesSpec.vars.all (Tryz.pinned.checked.prog.varReadable ·)) = true := by kernel_rfl
theorem jk19 : (Tryz.f3.resultTypes.all (fun t => Tryz.pinned.checked.prog.readableRec t && decide (t < Tryz.pinned.checked.prog.types.size))) = true := by kernel_rfl
theorem jk20 : ((Rows.runMergesRow.ifacesOut == Tryz.f3.resultTypes.toList.any (Tryz.pinned.checked.prog.ifacesRec ·))) = true := by kernel_rfl
theorem jk21 : ((Rows.runMergesRow.loopsOut == Tryz.f3.resultTypes.toList.any (Tryz.pinned.checked.prog.loopsFrom ·))) = true := by kernel_rfl
theorem jk22 : ((Rows.runMergesRow.plainKeys == Tryz.pinned.checked.prog.plainKeys)) = true := by kernel_rfl
theorem jk23 : (Rows.runMergesRow.shortTexts.isNone) = true := by kernel_rfl
theorem jk24 : (Tryz.pinned.checked.prog.stopsHeard) = true := by kernel_rfl
theorem jk25 : (Tryz.pinned.checked.prog.mayEnter) = true := by kernel_rfl
end Go.Proofs.YtgonbicpehjogaaGreatDoor
