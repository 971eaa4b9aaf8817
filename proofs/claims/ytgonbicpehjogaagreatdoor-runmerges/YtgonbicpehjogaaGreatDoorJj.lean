/-
  What is closed of the row, put together.
-/
import Derived.Test.YtgonbicpehjogaaGreatDoorJf
import Derived.Test.YtgonbicpehjogaaGreatDoorJg
import Derived.Test.YtgonbicpehjogaaGreatDoorJh
import Derived.Test.YtgonbicpehjogaaGreatDoorJi
namespace Go.Proofs.YtgonbicpehjogaaGreatDoor
open Go Go.ChangeShapes Go.WideShapes
set_option maxRecDepth 100000
theorem and2 {a b : Bool} (h : a = true) (k : b = true) : (a && b) = true := by rw [h, k]; rfl
theorem joined : joinedFacts Tryz.pinned.checked.prog 3 Tryz.f3 Rows.runMergesSpec Rows.runMergesRow = true := by
  unfold joinedFacts
  exact (and2 (and2 (and2 (and2 (and2 (and2 (and2 (and2 (and2 (and2 (and2 (and2 (and2 (and2 (and2 (and2 (and2 (and2 (and2 (and2 (and2 (and2 (and2 (and2 (and2 (and2 (and2 (and2 (and2 (and2 (and2 jk0 jk1) jk2) jk3) jk4) jk5) jk6) jk7) jk8) jk9) jk10) jk11) jk12) jk13) jk14) jk15) jk16) jk17) jk18) jk19) jk20) jk21) jk22) jk23) jk24) jk25) jk26) jk27) jk28) jk29) jk30) jk31)
end Go.Proofs.YtgonbicpehjogaaGreatDoor
