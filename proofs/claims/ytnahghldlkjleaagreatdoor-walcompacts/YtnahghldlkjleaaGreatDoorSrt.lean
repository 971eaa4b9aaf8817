/-
  The library's sort of strings, at this program: its contract; of no element.
-/
import Derived.Test.YtnahghldlkjleaaGreatDoorLSrt
import Derived.Test.YtnahghldlkjleaaGreatDoorBas
import Derived.Shelf.Sort.AssemblysIn
import Derived.Shelf.Lay
import Derived.Sort.EveryDepth
import Derived.Sort.OwnSorted
import Derived.Sort.KeysCollected
namespace Go.Proofs.YtnahghldlkjleaaGreatDoor
open Go.RowKit Go.Shelf

theorem sort_any (blk off cap : Nat) (ss : List (List UInt8)) (w : World) (hH : Go.Sort.Holds encStr w blk off ss.toArray) (hb : blk < w.heap.size) (hl : ss.length < 4611686018427387904) :
    Calls Tryz.prog 100 #[.slice (some ⟨blk, off, none⟩) ss.length cap] w fun e w' =>
      e = .returned (.tuple #[]) ∧ ∃ n os, w' = Go.Sort.grow (Go.Sort.putRow encStr (Go.Sort.ahead w n) blk off (ss.mergeSort leB).toArray) os :=
  calls_of_every_depth fun D => AnyS.slices_Sort_string_in Tryz.lays190 D blk off cap ss w hH hb hl

theorem len0_any (w : World) : Calls Tryz.prog 144 #[.int .u64 0] w fun e w' => e = .returned (.int .i64 0) ∧ w' = w :=
  (calls_of_every_depth fun D => AnyS.bits_LenInS { Tryz.lays190 with } D 0 w (by omega) (by omega)).mono (fun e w' h => h)

theorem insertion_nil (p : Option Addr) (cap : Nat) (w : World) :
    Calls Tryz.prog 188 #[.slice p 0 cap, .int .i64 0, .int .i64 0] w fun e w' => e = .returned (.tuple #[]) ∧ w' = w := by
  go_enter Tryz.func188, Tryz.ntmps188
  go_wp2
  refine wp_loop_rounds 1 ?_
  rw [rounds_succ]
  go_wp2
  go_end0
  exact ⟨rfl, rfl⟩

set_option maxRecDepth 100000 in
theorem pdq_nil (p : Option Addr) (cap : Nat) (w : World) :
    Calls Tryz.prog 143 #[.slice p 0 cap, .int .i64 0, .int .i64 0, .int .i64 0] w fun e w' => e = .returned (.tuple #[]) ∧ w' = w := by
  go_enter Tryz.func143, Tryz.ntmps143
  go_wp2
  refine wp_loop_rounds 1 ?_
  rw [rounds_succ]
  go_wp2_with (first | (go_at_call 188; refine (insertion_nil p cap _).mono ?_; rintro e w' ⟨rfl, rfl⟩))
  refine bodyPost_ret (results_none rfl _ _ _) rfl ?_
  exact ⟨rfl, rfl⟩

set_option maxRecDepth 100000 in
theorem sort_nil (p : Option Addr) (cap : Nat) (w : World) :
    Calls Tryz.prog 100 #[.slice p 0 cap] w fun e w' => e = .returned (.tuple #[]) ∧ w' = w := by
  go_enter Tryz.func100, Tryz.ntmps100
  go_wp2_with (first
    | (go_at_call 144; refine (len0_any _).mono ?_; rintro e w' ⟨rfl, rfl⟩)
    | (go_at_call 143; refine (pdq_nil p cap _).mono ?_; rintro e w' ⟨rfl, rfl⟩))
  go_end0
  exact ⟨rfl, rfl⟩
end Go.Proofs.YtnahghldlkjleaaGreatDoor
