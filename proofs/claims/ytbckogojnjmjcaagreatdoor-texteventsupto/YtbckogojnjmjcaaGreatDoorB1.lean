/-
  The fields that words stand for.
-/
import Derived.Test.YtbckogojnjmjcaaGreatDoorFo
namespace Go.Proofs.YtbckogojnjmjcaaGreatDoor
open Go.RowKit Go.Shelf

def Pc.off : Pc → Nat
  | .node => 1
  | .client => 2
  | .n => 3
  | .m => 4
  | .pick => 3
  | .key => 6
  | .val => 7
  | .old => 8
def Pc.num : Pc → Nat
  | .node => 90
  | .client => 91
  | .n => 92
  | .m => 93
  | .pick => 94
  | .key => 95
  | .val => 96
  | .old => 97
theorem fn_any (p : Pc) (b : Nat) (w : World) : Calls Tryz.prog p.num #[.pointer (some ⟨b, 0, none⟩)] w fun e w' => e = .returned (.pointer (some ⟨b, p.off, none⟩)) ∧ w' = w := by
  cases p
  · show Calls _ 90 _ _ _
    go_enter Tryz.func90, Tryz.ntmps90
    go_wp2
    go_ret
    exact ⟨rfl, rfl⟩
  · show Calls _ 91 _ _ _
    go_enter Tryz.func91, Tryz.ntmps91
    go_wp2
    go_ret
    exact ⟨rfl, rfl⟩
  · show Calls _ 92 _ _ _
    go_enter Tryz.func92, Tryz.ntmps92
    go_wp2
    go_ret
    exact ⟨rfl, rfl⟩
  · show Calls _ 93 _ _ _
    go_enter Tryz.func93, Tryz.ntmps93
    go_wp2
    go_ret
    exact ⟨rfl, rfl⟩
  · show Calls _ 94 _ _ _
    go_enter Tryz.func94, Tryz.ntmps94
    go_wp2
    go_ret
    exact ⟨rfl, rfl⟩
  · show Calls _ 95 _ _ _
    go_enter Tryz.func95, Tryz.ntmps95
    go_wp2
    go_ret
    exact ⟨rfl, rfl⟩
  · show Calls _ 96 _ _ _
    go_enter Tryz.func96, Tryz.ntmps96
    go_wp2
    go_ret
    exact ⟨rfl, rfl⟩
  · show Calls _ 97 _ _ _
    go_enter Tryz.func97, Tryz.ntmps97
    go_wp2
    go_ret
    exact ⟨rfl, rfl⟩
end Go.Proofs.YtbckogojnjmjcaaGreatDoor
