/-
  ordered.
-/
import Derived.Test.YteekpfgjpdopmaaSt
namespace Go.Proofs.Yteekpfgjpdopmaa
open Go.RowKit
set_option linter.unusedVariables false

set_option maxRecDepth 100000 in
set_option maxHeartbeats 2000000 in
theorem ordered_any {N : Nat} {S : Nat → Prop} {w : World} {b : Nat} {P : PL} (h : Lg N S w b P) :
    Calls Try.prog 36 #[.pointer (some ⟨b, 0, none⟩)] w fun e w' => e = .returned (.bool true) ∧ Below w.heap.size w w' := by
  have o1 := h.ok.ba
  have o2 := h.ok.ag
  have o3 := h.ok.gc
  have o4 := h.ok.cl
  have o5 := h.ok.gs
  have o6 := h.ok.sh
  have o7 := h.ok.hl
  have HM : Hid (Calls _ _ _ _ _) := Marks_any h
  have HB : Hid (∀ w1, Below w.heap.size w w1 → Calls Try.prog 26 #[.pointer (some ⟨b, 0, none⟩)] w1 fun e w' => e = .returned (.tuple #[.int .i64 P.bi, .int .i64 P.bt]) ∧ Below w1.heap.size w1 w') := fun w1 hB => Base_any (h.below hB)
  have HL : Hid (∀ w1, Below w.heap.size w w1 → Calls Try.prog 24 #[.pointer (some ⟨b, 0, none⟩)] w1 fun e w' => e = .returned (.tuple #[.int .i64 P.li, .int .i64 P.lt]) ∧ Below w1.heap.size w1 w') := fun w1 hB => Last_any (h.below hB)
  clear h
  generalize P.bi = bi at *
  generalize P.bt = bt at *
  generalize P.li = li at *
  generalize P.lt = lt at *
  generalize P.h = h0 at *
  generalize P.s = s0 at *
  generalize P.c = c0 at *
  generalize P.g = g0 at *
  generalize P.a = a0 at *
  go_enter Try.func36, Try.ntmps36
  go_wp2_with fail
  refine HM.out.mono ?_
  rintro r w1 ⟨rfl, hB1⟩
  obtain ⟨W2, hW2⟩ : ∃ W2, w1.alloc (.cells #[.int .i64 h0, .int .i64 s0, .int .i64 c0, .int .i64 g0, .int .i64 a0] 55) = W2 := ⟨_, rfl⟩
  have HW2 : Hid (w1.alloc (.cells #[.int .i64 h0, .int .i64 s0, .int .i64 c0, .int .i64 g0, .int .i64 a0] 55) = W2) := hW2
  have HB2 : Hid (Below w.heap.size w W2) := by show Below _ _ _; rw [← hW2]; exact hB1.alloc hB1.size _
  have HZ2 : Hid (w1.heap.size < W2.heap.size) := by show _ < _; rw [← hW2]; simp
  have HX2 : Hid (∀ w3, Below W2.heap.size W2 w3 → w3.heap[w1.heap.size]? = some (.cells #[.int .i64 h0, .int .i64 s0, .int .i64 c0, .int .i64 g0, .int .i64 a0] 55 (0, 0))) := fun w3 h3 => (h3.block _ HZ2.out).trans (by rw [← hW2]; exact heap_alloc_new w1 _)
  clear hB1 HM hW2
  go_wp2_with fail
  rw [HW2.out]
  refine (HB.out _ HB2.out).mono ?_
  rintro r w3 ⟨rfl, hB3⟩
  have HB3 : Hid (Below w.heap.size w w3) := HB2.out.trans (hB3.mono HB2.out.size)
  have HB23 : Hid (Below W2.heap.size W2 w3) := hB3
  clear hB3
  go_wp2_with fail
  refine (HL.out _ HB3.out).mono ?_
  rintro r w4 ⟨rfl, hB4⟩
  have HB4 : Hid (Below w.heap.size w w4) := HB3.out.trans (hB4.mono HB3.out.size)
  obtain ⟨⟨z0, z1, z2, z3, z4⟩, -⟩ := cells5 (HX2.out w4 (HB23.out.trans (hB4.mono HB23.out.size)))
  clear hB4
  go_wp2
  go_ret
  exact ⟨rfl, HB4.out⟩
end Go.Proofs.Yteekpfgjpdopmaa
