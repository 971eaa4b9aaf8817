/-
  The fields that words stand for.
-/
import Derived.Test.YtbckogojnjmjcabDoorFo
namespace Go.Proofs.YtbckogojnjmjcabDoor
open Go.RowKit Go.Shelf

def Pc.off : Pc → Nat
  | .node => 1
  | .client => 2
  | .n => 3
  | .m => 4
  | .pick => 3
  | .key => 6
  | .val => 7
  | .old => 8
def Pc.num : Pc → Nat
  | .node => 42
  | .client => 43
  | .n => 44
  | .m => 45
  | .pick => 46
  | .key => 47
  | .val => 48
  | .old => 49
theorem fn_any (p : Pc) (b : Nat) (w : World) : Calls Tryd.prog p.num #[.pointer (some ⟨b, 0, none⟩)] w fun e w' => e = .returned (.pointer (some ⟨b, p.off, none⟩)) ∧ w' = w := by
  cases p
  · show Calls _ 42 _ _ _
    go_enter Tryd.func42, Tryd.ntmps42
    go_wp2
    go_ret
    exact ⟨rfl, rfl⟩
  · show Calls _ 43 _ _ _
    go_enter Tryd.func43, Tryd.ntmps43
    go_wp2
    go_ret
    exact ⟨rfl, rfl⟩
  · show Calls _ 44 _ _ _
    go_enter Tryd.func44, Tryd.ntmps44
    go_wp2
    go_ret
    exact ⟨rfl, rfl⟩
  · show Calls _ 45 _ _ _
    go_enter Tryd.func45, Tryd.ntmps45
    go_wp2
    go_ret
    exact ⟨rfl, rfl⟩
  · show Calls _ 46 _ _ _
    go_enter Tryd.func46, Tryd.ntmps46
    go_wp2
    go_ret
    exact ⟨rfl, rfl⟩
  · show Calls _ 47 _ _ _
    go_enter Tryd.func47, Tryd.ntmps47
    go_wp2
    go_ret
    exact ⟨rfl, rfl⟩
  · show Calls _ 48 _ _ _
    go_enter Tryd.func48, Tryd.ntmps48
    go_wp2
    go_ret
    exact ⟨rfl, rfl⟩
  · show Calls _ 49 _ _ _
    go_enter Tryd.func49, Tryd.ntmps49
    go_wp2
    go_ret
    exact ⟨rfl, rfl⟩
end Go.Proofs.YtbckogojnjmjcabDoor
