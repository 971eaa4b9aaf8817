/-
  How an act went.
-/
import Derived.Test.YtbckogojnjmjcaaGreatDoorJeb
namespace Go.Proofs.YtbckogojnjmjcaaGreatDoor
open Go.RowKit Go.Shelf

/-- The line that tells how an act went. -/
def verL (err : Int) (did : Bool) : Bs := if err ≠ 0 then tellL [101, 114, 114] [err] else if did then [111, 107] else [110, 111]
theorem verL_len (err : Int) (did : Bool) (h : InZ err) : (verL err did).length ≤ 100 := by
  unfold verL
  split
  · have := itoa_len err h.1 h.2
    simp only [tellL, List.length_append, List.length_cons, List.length_nil]
    omega
  · cases did <;> decide
set_option maxRecDepth 100000 in
set_option maxHeartbeats 4000000 in
theorem verdict_any (err : Int) (did : Bool) (a : Option Addr) (n c : Nat) (he : InZ err) (w : World) (hv : Vars w) : Calls Tryz.prog 64 #[.agg #[.int .i64 err, .bool did, .slice a n c]] w fun r w' => r = .returned (.string ⟨(verL err did).toArray⟩) ∧ Below w.heap.size w w' := by
  obtain ⟨W0, hW0⟩ : ∃ W0, w.alloc (.cells #[.int .i64 err, .bool did, .slice a n c] 68) = W0 := ⟨_, rfl⟩
  have HB0 : Hid (Below w.heap.size w W0) := by show Below _ _ _; rw [← hW0]; exact (Below.refl _ _).alloc (Nat.le_refl _) _
  have hX0 : W0.heap[w.heap.size]? = some (.cells #[.int .i64 err, .bool did, .slice a n c] 68 (0, 0)) := by rw [← hW0]; exact heap_alloc_new w _
  have c0 : W0.cell? ⟨w.heap.size, 0, none⟩ = some (.int .i64 err) := by simp only [World.cell?, hX0]; rfl
  have c1 : W0.cell? ⟨w.heap.size, 1, none⟩ = some (.bool did) := by simp only [World.cell?, hX0]; rfl
  have HW0 : Hid (_ = W0) := hW0
  have HT := tell1_any [101, 114, 114] (by decide) err he W0 (hv.below HB0.out)
  clear hW0 hX0 hv
  by_cases h0 : err = 0
  · subst h0
    cases did with
    | true =>
      have HE : Hid (verL 0 true = [111, 107]) := by show _ = _; unfold verL; simp
      go_enter Tryz.func64, Tryz.ntmps64
      go_upto_region 1 with fail
      rw [HW0.out]
      go_wp2
      go_ret
      exact ⟨by rw [HE.out]; rfl, HB0.out⟩
    | false =>
      have HE : Hid (verL 0 false = [110, 111]) := by show _ = _; unfold verL; simp
      go_enter Tryz.func64, Tryz.ntmps64
      go_upto_region 1 with fail
      rw [HW0.out]
      go_wp2
      go_ret
      exact ⟨by rw [HE.out]; rfl, HB0.out⟩
  · have HE : Hid (verL err did = tellL [101, 114, 114] [err]) := by show _ = _; unfold verL; rw [if_pos h0]
    have hb : (err != 0) = true := by rw [bne_iff_ne]; exact h0
    clear h0
    go_enter Tryz.func64, Tryz.ntmps64
    go_upto_region 1 with fail
    rw [HW0.out]
    go_wp2_with (go_at_call 61; refine HT.mono ?_; rintro r w5 ⟨rfl, hB5⟩)
    go_ret
    exact ⟨by rw [HE.out]; rfl, HB0.out.trans (hB5.mono HB0.out.size)⟩
end Go.Proofs.YtbckogojnjmjcaaGreatDoor
