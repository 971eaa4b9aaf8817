/-
  Do, in one word; New.
-/
import Derived.Test.YtglhjgfaelfleaaGreatD5a
import Derived.Test.YtglhjgfaelfleaaGreatD5b
import Derived.Test.YtglhjgfaelfleaaGreatD5c
namespace Go.Proofs.YtglhjgfaelfleaaGreat
open Go.RowKit

theorem do_any {w : World} {b mp ms : Nat} {K : KV} (h : St w b mp ms K) (c : Cm) :
    Calls Tryz.prog 14 #[.pointer (some ⟨b, 0, none⟩), c.v] w fun e w' => e = .returned (.tuple #[(doF K c).2.v, .int .i64 (c.ck : Int)]) ∧ St w' b mp ms (doF K c).1 ∧ Out (Mx mp ms) w w' := by
  have hdo := doF_ok h.ok c
  by_cases hck : c.ck = 0
  · obtain ⟨k1, k2, _, _, _, _⟩ := ck_ok hck
    cases hse : settled K.ss c.cl c.sq with
    | some r =>
      have e : doF K c = (K, r) := by unfold doF; rw [if_neg (by simpa using hck), hse]
      rw [e]
      obtain ⟨rc, rv⟩ := r
      exact (do_set h c.op c.cl c.sq c.key c.val c.old hck (by omega) hse).mono fun e w' ⟨h1, h2⟩ => ⟨h1, h.below h2, Out.of_below h2⟩
    | none =>
      have e : doF K c = (⟨(opK K.ps c).1, putK kS ⟨c.cl, c.sq, (opK K.ps c).2⟩ K.ss⟩, (opK K.ps c).2) := by unfold doF; rw [if_neg (by simpa using hck), hse]
      rw [e] at hdo ⊢
      have : c.op = 2 ∨ c.op = 3 ∨ c.op = 4 := by omega
      rcases this with ho | ho | ho
      · exact do_put h c.op c.cl c.sq c.key c.val c.old hck (by omega) ho hse hdo
      · exact do_remove h c.op c.cl c.sq c.key c.val c.old hck (by omega) ho hse hdo
      · exact do_swap h c.op c.cl c.sq c.key c.val c.old hck (by omega) ho hse hdo
  · have e : doF K c = (K, rp0) := by unfold doF; rw [if_pos hck]
    rw [e]
    exact (do_err h c.op c.cl c.sq c.key c.val c.old hck).mono fun e w' ⟨h1, h2⟩ => ⟨h1, h.below h2, Out.of_below h2⟩

set_option maxRecDepth 100000 in
set_option maxHeartbeats 2000000 in
theorem new_any (w : World) : Calls Tryz.prog 16 #[] w fun e w' => e = .returned (.pointer (some ⟨w.heap.size + 2, 0, none⟩)) ∧ St w' (w.heap.size + 2) w.heap.size (w.heap.size + 1) ⟨[], []⟩ ∧ Below w.heap.size w w' ∧ w'.heap.size = w.heap.size + 3 := by
  have hmm := @run_makeMap Tryz.prog
  go_enter Tryz.func16, Tryz.ntmps16
  go_wp2
  go_ret
  refine ⟨rfl, ⟨?_, ?_, ?_, by omega, Ok0⟩, Below.alloc' (Below.alloc' (Below.alloc' (Below.refl _ w) _) _) _, by simp⟩
  · have := heap_alloc_new ((w.alloc (.map #[] 0)).alloc (.map #[] 0)) (.cells #[.map (some w.heap.size), .map (some (w.heap.size + 1))] 77)
    simpa using this
  · exact ((World.ownsMap_made w Tryz.prog 9 rdV).alloc _).alloc _
  · have := (World.ownsMap_made (w.alloc (.map #[] 0)) Tryz.prog 3 rdV).alloc (.cells #[.map (some w.heap.size), .map (some (w.heap.size + 1))] 77)
    rw [World.size_alloc] at this
    exact this
end Go.Proofs.YtglhjgfaelfleaaGreat
