/-
  P13.3, P13.4: the tied card.
-/
import Derived.Test.YtgonbicpehjogaaGreatDoorRowMe
import Derived.Test.YtgonbicpehjogaaGreatDoorJk
import Derived.Test.YtgonbicpehjogaaGreatDoorJl
import Derived.Test.YtgonbicpehjogaaGreatDoorJm
namespace Go.Proofs.YtgonbicpehjogaaGreatDoor
open Go.ChangeShapes Go.WideShapes Go.ChangeAt Go.RowKit
set_option linter.unusedVariables false

theorem runMerges_holds : Rows.RunMergesCardSaid :=
  holds_tied_plain_goes .later [] [.data, .data, .data, .sentinel, .sentinel] true (true, "bcba00b6c8f95d0613b59f464f90881c67d5b62b32b2dd96d29b872186073dec") true
    runMerges_row (fun _ h => by cases h) rm_wf (fun _ h => by cases h) runMerges_row_tie rfl ⟨rfl, rfl⟩ rm_main rfl
    (fun f fn hf hfn => by
      obtain rfl : f = 3 := Option.some.inj (rm_fn.symm.trans hf) |>.symm
      obtain rfl : fn = Tryz.f3 := (Option.some.inj (Tryz.func3.symm.trans hfn)).symm
      exact ⟨rm_looks, fun j t ht => by
        rw [Tryz.params3] at ht
        have hm : t ∈ [22] := by simpa using Array.mem_of_getElem? ht
        have hall := rm_stand
        exact (show Tryz.prog.wantsStandIn t = false by simpa using List.all_eq_true.1 hall t hm)⟩)
    rm_goes
#print axioms runMerges_holds
end Go.Proofs.YtgonbicpehjogaaGreatDoor
