/-
  The library's sort and reverse of ints, at this program, of rows of a call's own.
-/
import Derived.Test.YtnahghldlkjleaaGreatDoorLSrt
import Derived.Test.YtnahghldlkjleaaGreatDoorInBas
import Derived.Test.YtnahghldlkjleaaGreatDoorSrt
import Derived.Shelf.Sort.Plain

import Derived.Shelf.Lay
import Derived.Sort.OwnSortedInts
namespace Go.Proofs.YtnahghldlkjleaaGreatDoor
open Go.RowKit Go.Shelf
set_option linter.unusedVariables false
theorem fSrtI : Tryz.lays189_ren.f 189 = 161 := by kernel_rfl

theorem insertion_nilI (p : Option Addr) (cap : Nat) (w : World) :
    Calls Tryz.prog 244 #[.slice p 0 cap, .int .i64 0, .int .i64 0] w fun e w' => e = .returned (.tuple #[]) ∧ w' = w := by
  go_enter Tryz.func244, Tryz.ntmps244
  go_wp2
  refine wp_loop_rounds 1 ?_
  rw [rounds_succ]
  go_wp2
  go_end0
  exact ⟨rfl, rfl⟩

set_option maxRecDepth 100000 in
theorem pdq_nilI (p : Option Addr) (cap : Nat) (w : World) :
    Calls Tryz.prog 206 #[.slice p 0 cap, .int .i64 0, .int .i64 0, .int .i64 0] w fun e w' => e = .returned (.tuple #[]) ∧ w' = w := by
  go_enter Tryz.func206, Tryz.ntmps206
  go_wp2
  refine wp_loop_rounds 1 ?_
  rw [rounds_succ]
  go_wp2_with (first | (go_at_call 244; refine (insertion_nilI p cap _).mono ?_; rintro e w' ⟨rfl, rfl⟩))
  refine bodyPost_ret (results_none rfl _ _ _) rfl ?_
  exact ⟨rfl, rfl⟩

set_option maxRecDepth 100000 in
theorem sort_nilI (p : Option Addr) (cap : Nat) (w : World) :
    Calls Tryz.prog 161 #[.slice p 0 cap] w fun e w' => e = .returned (.tuple #[]) ∧ w' = w := by
  go_enter Tryz.func161, Tryz.ntmps161
  go_wp2_with (first
    | (go_at_call 144; refine (len0_any _).mono ?_; rintro e w' ⟨rfl, rfl⟩)
    | (go_at_call 206; refine (pdq_nilI p cap _).mono ?_; rintro e w' ⟨rfl, rfl⟩))
  go_end0
  exact ⟨rfl, rfl⟩

/-- The sort of a row that rises leaves it. -/
theorem sort_up (N : Nat) (a : Option Addr) (cap : Nat) (l : List Int) (w : World) (h : In.Ow N w (.slice a l.length cap) l) (hs : l.Pairwise (fun x y => x ≤ y)) (hl : l.length ≤ 100000) :
    Calls Tryz.prog 161 #[.slice a l.length cap] w fun e w' => e = .returned (.tuple #[]) ∧ In.Ow N w' (.slice a l.length cap) l ∧ w.grownBy w' (Value.slice a l.length cap).ownBlock := by
  rcases h.2 with ⟨h1, h2⟩ | ⟨g', cap', cur, hv, hg, hb, hc, hm, hsz, ht⟩
  · have hl0 : l = [] := List.length_eq_zero_iff.1 h2
    subst hl0
    refine (sort_nilI a cap w).mono ?_
    rintro e w' ⟨rfl, rfl⟩
    exact ⟨rfl, h, ⟨rfl, rfl, rfl, Nat.le_refl _, fun _ _ _ => rfl⟩⟩
  · cases hv
    rw [Nat.mul_one] at ht
    have hms : (l.mergeSort fun x y => decide (x ≤ y)) = l := List.mergeSort_of_pairwise (hs.imp (fun {x y} hxy => by simpa using hxy))
    have hcall := Any.slices_Sort_int Tryz.lays189 g' 0 cap l w (holds_of_blockI hb ht) (Array.getElem?_eq_some_iff.1 hb).1 (by omega)
    rw [hms, fSrtI] at hcall
    refine hcall.mono ?_
    rintro e w' ⟨rfl, n, os, rfl⟩
    exact ⟨rfl, ownsRow_sortedI (ss := l) (ts := l) (n := n) (os := os) rfl hg hb hc hm hsz, grownBy_sortedI _⟩

end Go.Proofs.YtnahghldlkjleaaGreatDoor
