/-
  Contracts of the library at this program: tables of numbers, a field a fact.
-/
import Derived.Shelf.Small.Wraps
import Derived.Ground.NamesProg
import Derived.Test.YtadajbdmlmickaaGreatDoorProg
namespace Go.Proofs
open Go.Shelf
def Tryz.laysCutP_ren : Go.Shelf.Ren := ⟨fun | 103 => 54 | 210 => 93 | 206 => 137 | n => n, fun | 9 => 9 | 4 => 4 | 24 => 96 | 3 => 3 | n => n, fun | n => n⟩
theorem Tryz.laysCutP : Go.Proofs.Lays.n103 Tryz.prog Tryz.laysCutP_ren := {
  mixed := by kernel_rfl
  f103 := Tryz.func54.trans (congrArg some (by kernel_rfl))
  f206 := Tryz.func137.trans (congrArg some (by kernel_rfl))
  f210 := Tryz.func93.trans (congrArg some (by kernel_rfl))
  t3 := Tryz.underlying3
  a3 := Tryz.isAgg3
  z3 := Tryz.sizeOf3
  v3 := Tryz.zeroValue3
  t4 := Tryz.underlying4
  a4 := Tryz.isAgg4
  z4 := Tryz.sizeOf4
  v4 := Tryz.zeroValue4
  t9 := Tryz.underlying9
  a9 := Tryz.isAgg9
  z9 := Tryz.sizeOf9
  v9 := Tryz.zeroValue9
  t24 := Tryz.underlying96
  a24 := Tryz.isAgg96
  z24 := Tryz.sizeOf96
  v24 := Tryz.zeroValue96 }
end Go.Proofs
