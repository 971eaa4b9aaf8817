/-
  The fields that words stand for.
-/
import Derived.Test.YtbckogojnjmjcaaDoorFo
namespace Go.Proofs.YtbckogojnjmjcaaDoor
open Go.RowKit Go.Shelf

def Pc.off : Pc → Nat
  | .node => 1
  | .client => 2
  | .n => 3
  | .m => 4
  | .pick => 3
  | .key => 6
  | .val => 7
  | .old => 8
def Pc.num : Pc → Nat
  | .node => 38
  | .client => 39
  | .n => 40
  | .m => 41
  | .pick => 42
  | .key => 43
  | .val => 44
  | .old => 45
theorem fn_any (p : Pc) (b : Nat) (w : World) : Calls Tryd.prog p.num #[.pointer (some ⟨b, 0, none⟩)] w fun e w' => e = .returned (.pointer (some ⟨b, p.off, none⟩)) ∧ w' = w := by
  cases p
  · show Calls _ 38 _ _ _
    go_enter Tryd.func38, Tryd.ntmps38
    go_wp2
    go_ret
    exact ⟨rfl, rfl⟩
  · show Calls _ 39 _ _ _
    go_enter Tryd.func39, Tryd.ntmps39
    go_wp2
    go_ret
    exact ⟨rfl, rfl⟩
  · show Calls _ 40 _ _ _
    go_enter Tryd.func40, Tryd.ntmps40
    go_wp2
    go_ret
    exact ⟨rfl, rfl⟩
  · show Calls _ 41 _ _ _
    go_enter Tryd.func41, Tryd.ntmps41
    go_wp2
    go_ret
    exact ⟨rfl, rfl⟩
  · show Calls _ 42 _ _ _
    go_enter Tryd.func42, Tryd.ntmps42
    go_wp2
    go_ret
    exact ⟨rfl, rfl⟩
  · show Calls _ 43 _ _ _
    go_enter Tryd.func43, Tryd.ntmps43
    go_wp2
    go_ret
    exact ⟨rfl, rfl⟩
  · show Calls _ 44 _ _ _
    go_enter Tryd.func44, Tryd.ntmps44
    go_wp2
    go_ret
    exact ⟨rfl, rfl⟩
  · show Calls _ 45 _ _ _
    go_enter Tryd.func45, Tryd.ntmps45
    go_wp2
    go_ret
    exact ⟨rfl, rfl⟩
end Go.Proofs.YtbckogojnjmjcaaDoor
