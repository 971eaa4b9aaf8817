/-
  The fields that words stand for.
-/
import Derived.Test.YtbckogojnjmjcabGreatDoorFo
namespace Go.Proofs.YtbckogojnjmjcabGreatDoor
open Go.RowKit Go.Shelf

def Pc.off : Pc → Nat
  | .node => 1
  | .client => 2
  | .n => 3
  | .m => 4
  | .pick => 3
  | .key => 6
  | .val => 7
  | .old => 8
def Pc.num : Pc → Nat
  | .node => 50
  | .client => 51
  | .n => 52
  | .m => 53
  | .pick => 54
  | .key => 55
  | .val => 56
  | .old => 57
theorem fn_any (p : Pc) (b : Nat) (w : World) : Calls Tryz.prog p.num #[.pointer (some ⟨b, 0, none⟩)] w fun e w' => e = .returned (.pointer (some ⟨b, p.off, none⟩)) ∧ w' = w := by
  cases p
  · show Calls _ 50 _ _ _
    go_enter Tryz.func50, Tryz.ntmps50
    go_wp2
    go_ret
    exact ⟨rfl, rfl⟩
  · show Calls _ 51 _ _ _
    go_enter Tryz.func51, Tryz.ntmps51
    go_wp2
    go_ret
    exact ⟨rfl, rfl⟩
  · show Calls _ 52 _ _ _
    go_enter Tryz.func52, Tryz.ntmps52
    go_wp2
    go_ret
    exact ⟨rfl, rfl⟩
  · show Calls _ 53 _ _ _
    go_enter Tryz.func53, Tryz.ntmps53
    go_wp2
    go_ret
    exact ⟨rfl, rfl⟩
  · show Calls _ 54 _ _ _
    go_enter Tryz.func54, Tryz.ntmps54
    go_wp2
    go_ret
    exact ⟨rfl, rfl⟩
  · show Calls _ 55 _ _ _
    go_enter Tryz.func55, Tryz.ntmps55
    go_wp2
    go_ret
    exact ⟨rfl, rfl⟩
  · show Calls _ 56 _ _ _
    go_enter Tryz.func56, Tryz.ntmps56
    go_wp2
    go_ret
    exact ⟨rfl, rfl⟩
  · show Calls _ 57 _ _ _
    go_enter Tryz.func57, Tryz.ntmps57
    go_wp2
    go_ret
    exact ⟨rfl, rfl⟩
end Go.Proofs.YtbckogojnjmjcabGreatDoor
