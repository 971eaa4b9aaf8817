/-
  What is closed of the row, on.
-/
import Derived.Test.YtgonbicpehjogaaGreatDoorLo
import Derived.Conc.Holds
import Derived.LaidMore
import Derived.Stop.Joined
namespace Go.Proofs.YtgonbicpehjogaaGreatDoor
open Go Go.ChangeShapes Go.WideShapes
set_option maxRecDepth 100000
theorem jk26 : ((Rows.runMergesRow.lifted == Tryz.pinned.checked.prog.liftsFinal)) = true := by kernel_rfl
theorem jk27 : ((Tryz.pinned.checked.prog.make == some Rows.runMergesRow.make)) = true := by kernel_rfl
theorem jk28 : ((Rows.runMergesRow.kinds == (if Rows.runMergesRow.domain.isEmpty then [] else Tryz.f3.params.toList.map fun t => match Tryz.pinned.checked.prog.underlying t with | some (.int k) => some k | _ => none))) = true := by kernel_rfl
theorem jk29 : ((Rows.runMergesRow.pinned == Rows.runMergesRow.pinnedBy)) = true := by kernel_rfl
theorem jk30 : ((Rows.runMergesRow.veiled == (Tryz.f3.params.toList ++ Rows.runMergesSpec.plain.varTypes Tryz.pinned.checked.prog ++ Tryz.f3.resultTypes.toList).any (Tryz.pinned.checked.prog.veiledRec ·))) = true := by kernel_rfl
theorem jk31 : (Rows.runMergesRow.veiledFits Tryz.pinned.checked.prog Tryz.f3.params.toList (Tryz.f3.params.toList ++ Rows.runMergesSpec.plain.varTypes Tryz.pinned.checked.prog ++ Tryz.f3.resultTypes.toList)) = true := by kernel_rfl
end Go.Proofs.YtgonbicpehjogaaGreatDoor
