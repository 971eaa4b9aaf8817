/-
  That the program goes: it is not followed whole, and a body of it has a go statement.
-/
import Derived.Test.YtgonbicpehjogaaGreatDoorJg
import Derived.Test.YtgonbicpehjogaaGreatDoorJm
namespace Go.Proofs.YtgonbicpehjogaaGreatDoor
open Go Go.ChangeShapes Go.WideShapes
set_option maxRecDepth 100000
theorem rm_any : Tryz.pinned.checked.prog.funcs.any Func.goes = true := by kernel_rfl
theorem rm_unf : Tryz.pinned.checked.prog.unfollowed 3 = true := (eq_of_beq jk10).symm
theorem goes_of {P : Program} {f : FuncId} (h1 : P.unfollowed f = true) (h2 : P.funcs.any Func.goes = true) : P.goes f = true := by
  unfold Program.goes
  rw [h1, h2]
  exact Bool.or_true _
theorem goesBy_of {P : Program} {c : OpenClaim} {f : FuncId} (h : P.funcNamed c.func = some f) (hg : P.goes f = true) : true = c.goesBy P := by
  unfold OpenClaim.goesBy Program.goesAt Program.goesFrom
  rw [h]
  simp [hg]
theorem rm_goes : true = Rows.runMergesRow.goesBy Tryz.pinned.checked.prog :=
  goesBy_of (f := 3) (by kernel_rfl) (goes_of rm_unf rm_any)
end Go.Proofs.YtgonbicpehjogaaGreatDoor
