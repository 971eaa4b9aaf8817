/-
  Base, Stable.
-/
import Derived.Test.YteekpfgjpdopmaaAd
namespace Go.Proofs.Yteekpfgjpdopmaa
open Go.RowKit
set_option linter.unusedVariables false

set_option maxRecDepth 100000 in
set_option maxHeartbeats 1000000 in
/-- Base. -/
theorem Base_any {N : Nat} {S : Nat → Prop} {w : World} {b : Nat} {P : PL} (h : Lg N S w b P) :
    Calls Try.prog 26 #[.pointer (some ⟨b, 0, none⟩)] w fun e w' => e = .returned (.tuple #[.int .i64 P.bi, .int .i64 P.bt]) ∧ Below w.heap.size w w' := by
  obtain ⟨va, vc, es, hb, -⟩ := h.cells
  obtain ⟨⟨c0, c1, -⟩, -⟩ := cells8 hb
  have hbw := h.inn _ h.Sb
  clear h hb
  go_enter Try.func26, Try.ntmps26
  go_wp2_with fail
  go_quiet (fail)
  go_wp2
  go_returns
  exact ⟨rfl, below_drewN (Below.refl _ _) _⟩

/-- The log behind Stable. -/
def stP (P : PL) (i t : Int) : PL := if P.s < i ∧ i ≤ P.h ∧ P.has i t = true then P.mk' P.h i P.c P.g P.a else P
theorem stP_ok {P : PL} (h : P.Ok) (i t : Int) : (stP P i t).Ok := by
  unfold stP
  split
  · exact h.mk' h.ba h.ag h.gc h.cl (by have := h.gs; omega) (by omega) h.hl
  · exact h

set_option maxRecDepth 100000 in
set_option maxHeartbeats 4000000 in
/-- Stable. -/
theorem Stable_any {N : Nat} {S : Nat → Prop} {w : World} {b : Nat} {P : PL} (h : Lg N S w b P) (hN : N ≤ w.heap.size) (i t : Int) :
    Calls Try.prog 31 #[.pointer (some ⟨b, 0, none⟩), .int .i64 i, .int .i64 t] w fun e w' => e = .returned (.bool (decide (P.s < i ∧ i ≤ P.h ∧ P.has i t = true))) ∧ LK N S w w' b (stP P i t) := by
  obtain ⟨va, vc, es, hb, -⟩ := h.cells
  have hbw := h.inn _ h.Sb
  obtain ⟨⟨-, -, -, m3, m4, m5, m6, m7⟩, -⟩ := cells8 hb
  obtain ⟨W1, hW1⟩ : ∃ W1, w.alloc (.cells #[.int .i64 P.h, .int .i64 P.s, .int .i64 P.c, .int .i64 P.g, .int .i64 P.a] 55) = W1 := ⟨_, rfl⟩
  have HW1 : Hid (w.alloc (.cells #[.int .i64 P.h, .int .i64 P.s, .int .i64 P.c, .int .i64 P.g, .int .i64 P.a] 55) = W1) := hW1
  have HB1 : Hid (Below w.heap.size w W1) := by show Below _ _ _; rw [← hW1]; exact (Below.refl _ w).alloc (Nat.le_refl _) _
  have HZ1 : Hid (W1.heap.size = w.heap.size + 1) := by show _ = _; rw [← hW1]; simp
  have HX1 : Hid (∀ w2, Below W1.heap.size W1 w2 → w2.heap[w.heap.size]? = some (.cells #[.int .i64 P.h, .int .i64 P.s, .int .i64 P.c, .int .i64 P.g, .int .i64 P.a] 55 (0, 0))) := fun w2 h2 => (h2.block _ (by rw [HZ1.out]; omega)).trans (by rw [← hW1]; exact heap_alloc_new w _)
  have HHA : Hid (∀ w1, Below w.heap.size w w1 → Calls Try.prog 59 #[.pointer (some ⟨b, 0, none⟩), .int .i64 i, .int .i64 t] w1 fun e w' => e = .returned (.bool (P.has i t)) ∧ Below w1.heap.size w1 w') := fun w1 hB => Has_any (h.below hB) i t
  have HMV : Hid (∀ w4 s', Below w.heap.size w w4 → stP P i t = P.mk' P.h s' P.c P.g P.a → Calls Try.prog 78 #[.pointer (some ⟨b, 0, none⟩), .agg #[.int .i64 P.h, .int .i64 s', .int .i64 P.c, .int .i64 P.g, .int .i64 P.a]] w4 fun e w' => e = .returned (.bool (decide (P.s < i ∧ i ≤ P.h ∧ P.has i t = true))) ∧ LK N S w w' b (stP P i t)) := fun w4 s' hB hs => by
    have hm := move_any (h.below hB) (by have := hB.size; omega) P.h s' P.c P.g P.a (by rw [← hs]; exact stP_ok h.ok i t)
    have e1 : moved P P.h s' P.c P.g P.a = decide (P.s < i ∧ i ≤ P.h ∧ P.has i t = true) := by
      unfold stP at hs
      by_cases hc : P.s < i ∧ i ≤ P.h ∧ P.has i t = true
      · rw [if_pos hc] at hs
        have hsi : i = s' := congrArg PL.s hs
        have : (s' == P.s) = false := by simp; omega
        rw [decide_eq_true hc]; unfold moved; simp [this]
      · rw [if_neg hc] at hs
        have hsi : P.s = s' := congrArg PL.s hs
        rw [decide_eq_false hc]; unfold moved; simp [hsi]
    rw [e1, ← hs] at hm
    exact hm.mono (fun e w' h1 => ⟨h1.1, h1.2.pre hB⟩)
  obtain ⟨⟨y0, y1, y2, y3, y4⟩, yf⟩ := cells5 (HX1.out W1 (Below.refl _ _))
  have HEQ : Hid ((P.s < i → i ≤ P.h → P.has i t = true → stP P i t = P.mk' P.h i P.c P.g P.a) ∧ (¬ (P.s < i ∧ i ≤ P.h ∧ P.has i t = true) → stP P i t = P.mk' P.h P.s P.c P.g P.a)) := ⟨fun h1 h2 h3 => by unfold stP; rw [if_pos ⟨h1, h2, h3⟩], fun hc => by unfold stP; rw [if_neg hc]; rfl⟩
  obtain ⟨R, hR⟩ : ∃ R, decide (P.s < i ∧ i ≤ P.h ∧ P.has i t = true) = R := ⟨_, rfl⟩
  rw [hR] at HMV ⊢
  clear hR h hb hW1
  generalize P.has i t = ha at *
  generalize hH : P.h = h0 at *
  generalize hS : P.s = s0 at *
  generalize hC : P.c = c0 at *
  generalize hG : P.g = g0 at *
  generalize hA : P.a = a0 at *
  clear hH hS hC hG hA
  by_cases h1 : s0 < i
  · have h1' : decide (s0 < i) = true := by simpa using h1
    by_cases h2 : i ≤ h0
    · have h2' : decide (i ≤ h0) = true := by simpa using h2
      go_enter Try.func31, Try.ntmps31
      go_wp2_with fail
      rw [HW1.out]
      go_wp2_with fail
      refine (HHA.out _ (by exact HB1.out)).mono ?_
      rintro r w2 ⟨rfl, hB2⟩
      obtain ⟨⟨z0, z1, z2, z3, z4⟩, zf⟩ := cells5 (HX1.out w2 hB2)
      have HB2 : Hid (Below w.heap.size w w2) := HB1.out.trans (hB2.mono HB1.out.size)
      have HB3 : Hid (Below w.heap.size w (w2.setCell ⟨w.heap.size, 1, none⟩ (.int .i64 i))) := HB2.out.setCell (by simp) _
      clear hB2
      cases ha with
      | true =>
        have hm := HMV.out _ i HB3.out (HEQ.out.1 h1 h2 rfl)
        go_wp2_with (go_at_call 78; refine hm.mono ?_; rintro r w5 ⟨rfl, q1⟩)
        go_ret
        exact ⟨rfl, q1⟩
      | false =>
        have hm := HMV.out w2 s0 HB2.out (HEQ.out.2 (by simp))
        go_wp2_with (go_at_call 78; refine hm.mono ?_; rintro r w5 ⟨rfl, q1⟩)
        go_ret
        exact ⟨rfl, q1⟩
    · have h2' : decide (i ≤ h0) = false := by simpa using h2
      have hm := HMV.out W1 s0 HB1.out (HEQ.out.2 (fun h => h2 h.2.1))
      go_enter Try.func31, Try.ntmps31
      go_wp2_with fail
      rw [HW1.out]
      go_wp2_with (go_at_call 78; refine hm.mono ?_; rintro r w5 ⟨rfl, q1⟩)
      go_ret
      exact ⟨rfl, q1⟩
  · have h1' : decide (s0 < i) = false := by simpa using h1
    have hm := HMV.out W1 s0 HB1.out (HEQ.out.2 (fun h => h1 h.1))
    go_enter Try.func31, Try.ntmps31
    go_wp2_with fail
    rw [HW1.out]
    go_wp2_with (go_at_call 78; refine hm.mono ?_; rintro r w5 ⟨rfl, q1⟩)
    go_ret
    exact ⟨rfl, q1⟩
end Go.Proofs.Yteekpfgjpdopmaa
