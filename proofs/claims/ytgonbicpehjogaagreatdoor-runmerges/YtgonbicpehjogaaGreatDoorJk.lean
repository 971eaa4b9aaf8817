/-
  What the card looks at.
-/
import Derived.Test.YtgonbicpehjogaaGreatDoorRows
import Derived.Test.YtgonbicpehjogaaGreatDoorCards
import Derived.Conc.Holds
import Derived.LaidMore
import Derived.Stop.Joined
import Derived.SevenTiedAt
import Derived.LaidByTextLater
namespace Go.Proofs.YtgonbicpehjogaaGreatDoor
open Go Go.ChangeShapes Go.WideShapes
set_option maxRecDepth 100000
theorem rm_looks : true = Tryz.pinned.checked.prog.looks [] := by kernel_rfl
end Go.Proofs.YtgonbicpehjogaaGreatDoor
