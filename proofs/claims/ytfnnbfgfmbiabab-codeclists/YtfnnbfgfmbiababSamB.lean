/-
  Whether two entries, two snapshots are the same: the document's.
-/
import Derived.Test.YtfnnbfgfmbiababGetB
namespace Go.Proofs.Ytfnnbfgfmbiabab
open Go.RowKit Go.Shelf

set_option maxRecDepth 100000 in
set_option maxHeartbeats 8000000 in
theorem sameEntry_any (t1 i1 k1 : Int) (a1 : Option Addr) (c1 : Nat) (m1 : List UInt8) (t2 i2 k2 : Int) (a2 : Option Addr) (c2 : Nat) (m2 : List UInt8) (M : Nat) (w : World) (h1 : Sl M w (.slice a1 m1.length c1) m1) (h2 : Sl M w (.slice a2 m2.length c2) m2) (hM : M ≤ w.heap.size) :
    Calls Try.prog 85 #[.agg #[.int .i64 t1, .int .i64 i1, .int .i64 k1, .slice a1 m1.length c1], .agg #[.int .i64 t2, .int .i64 i2, .int .i64 k2, .slice a2 m2.length c2]] w fun e w' => e = .returned (.bool (decide (m1 = m2) && (t1 == t2) && (i1 == i2) && (k1 == k2))) ∧ Below w.heap.size w w' := by
  obtain ⟨W0, hW0⟩ : ∃ W0, (w.alloc (.cells #[.int .i64 t1, .int .i64 i1, .int .i64 k1, .slice a1 m1.length c1] 26)).alloc (.cells #[.int .i64 t2, .int .i64 i2, .int .i64 k2, .slice a2 m2.length c2] 26) = W0 := ⟨_, rfl⟩
  have HW0 : Hid ((w.alloc (.cells #[.int .i64 t1, .int .i64 i1, .int .i64 k1, .slice a1 m1.length c1] 26)).alloc (.cells #[.int .i64 t2, .int .i64 i2, .int .i64 k2, .slice a2 m2.length c2] 26) = W0) := hW0
  have HB0 : Hid (Below w.heap.size w W0) := by show Below w.heap.size w W0; rw [← hW0]; exact (((Below.refl _ w).alloc (by simp) _).alloc (by simp) _)
  have HX : Hid (W0.heap[w.heap.size]? = some (.cells #[.int .i64 t1, .int .i64 i1, .int .i64 k1, .slice a1 m1.length c1] 26 (0, 0))) := by
    show W0.heap[w.heap.size]? = _
    rw [← hW0]; exact (((Below.refl (w.heap.size + 1) (w.alloc _)).alloc (by simp) _).block _ (by simp)).trans (World.alloc_heap_new w _)
  have HY : Hid (W0.heap[w.heap.size + 1]? = some (.cells #[.int .i64 t2, .int .i64 i2, .int .i64 k2, .slice a2 m2.length c2] 26 (0, 0))) := by
    show W0.heap[w.heap.size + 1]? = _
    rw [← hW0]; simpa using World.alloc_heap_new (w.alloc (.cells #[.int .i64 t1, .int .i64 i1, .int .i64 k1, .slice a1 m1.length c1] 26)) _
  clear hW0
  have g1 := h1.below (HB0.out.mono hM)
  have g2 := h2.below (HB0.out.mono hM)
  go_enter Try.func85, Try.ntmps85
  go_wp2_with fail
  rw [HW0.out]
  refine (same_any M _ _ m1 m2 W0 g1 g2).mono ?_
  rintro e w1 ⟨rfl, n1, hw1⟩
  have HB1 : Hid (Below w.heap.size w w1) := by show Below _ _ _; rw [hw1]; exact HB0.out.trans ⟨rfl, rfl, rfl, Nat.le_refl _, fun _ _ => rfl⟩
  obtain ⟨⟨p0, p1, p2, p3⟩, -⟩ := cells4 (show w1.heap[w.heap.size]? = _ by rw [hw1]; exact HX.out)
  obtain ⟨⟨q0, q1, q2, q3⟩, -⟩ := cells4 (show w1.heap[w.heap.size + 1]? = _ by rw [hw1]; exact HY.out)
  clear hw1 g1 g2 h1 h2
  go_wp2
  all_goals
    go_ret
    refine ⟨?_, HB1.out⟩
    simp_all

set_option maxRecDepth 100000 in
set_option maxHeartbeats 8000000 in
theorem sameSnap_any (i1 t1 : Int) (a1 : Option Addr) (c1 : Nat) (m1 : List UInt8) (i2 t2 : Int) (a2 : Option Addr) (c2 : Nat) (m2 : List UInt8) (M : Nat) (w : World) (h1 : Sl M w (.slice a1 m1.length c1) m1) (h2 : Sl M w (.slice a2 m2.length c2) m2) (hM : M ≤ w.heap.size) :
    Calls Try.prog 45 #[.agg #[.int .i64 i1, .int .i64 t1, .slice a1 m1.length c1], .agg #[.int .i64 i2, .int .i64 t2, .slice a2 m2.length c2]] w fun e w' => e = .returned (.bool (decide (m1 = m2) && (i1 == i2) && (t1 == t2))) ∧ Below w.heap.size w w' := by
  obtain ⟨W0, hW0⟩ : ∃ W0, (w.alloc (.cells #[.int .i64 i1, .int .i64 t1, .slice a1 m1.length c1] 47)).alloc (.cells #[.int .i64 i2, .int .i64 t2, .slice a2 m2.length c2] 47) = W0 := ⟨_, rfl⟩
  have HW0 : Hid ((w.alloc (.cells #[.int .i64 i1, .int .i64 t1, .slice a1 m1.length c1] 47)).alloc (.cells #[.int .i64 i2, .int .i64 t2, .slice a2 m2.length c2] 47) = W0) := hW0
  have HB0 : Hid (Below w.heap.size w W0) := by show Below w.heap.size w W0; rw [← hW0]; exact (((Below.refl _ w).alloc (by simp) _).alloc (by simp) _)
  have HX : Hid (W0.heap[w.heap.size]? = some (.cells #[.int .i64 i1, .int .i64 t1, .slice a1 m1.length c1] 47 (0, 0))) := by
    show W0.heap[w.heap.size]? = _
    rw [← hW0]; exact (((Below.refl (w.heap.size + 1) (w.alloc _)).alloc (by simp) _).block _ (by simp)).trans (World.alloc_heap_new w _)
  have HY : Hid (W0.heap[w.heap.size + 1]? = some (.cells #[.int .i64 i2, .int .i64 t2, .slice a2 m2.length c2] 47 (0, 0))) := by
    show W0.heap[w.heap.size + 1]? = _
    rw [← hW0]; simpa using World.alloc_heap_new (w.alloc (.cells #[.int .i64 i1, .int .i64 t1, .slice a1 m1.length c1] 47)) _
  clear hW0
  have g1 := h1.below (HB0.out.mono hM)
  have g2 := h2.below (HB0.out.mono hM)
  go_enter Try.func45, Try.ntmps45
  go_wp2_with fail
  rw [HW0.out]
  refine (same_any M _ _ m1 m2 W0 g1 g2).mono ?_
  rintro e w1 ⟨rfl, n1, hw1⟩
  have HB1 : Hid (Below w.heap.size w w1) := by show Below _ _ _; rw [hw1]; exact HB0.out.trans ⟨rfl, rfl, rfl, Nat.le_refl _, fun _ _ => rfl⟩
  obtain ⟨⟨p0, p1, p2⟩, -⟩ := cells3 (show w1.heap[w.heap.size]? = _ by rw [hw1]; exact HX.out)
  obtain ⟨⟨q0, q1, q2⟩, -⟩ := cells3 (show w1.heap[w.heap.size + 1]? = _ by rw [hw1]; exact HY.out)
  clear hw1 g1 g2 h1 h2
  go_wp2
  all_goals
    go_ret
    refine ⟨?_, HB1.out⟩
    simp_all

end Go.Proofs.Ytfnnbfgfmbiabab
