/-
  Commit, Applied.
-/
import Derived.Test.YteekpfgjpdopmaaAd
namespace Go.Proofs.Yteekpfgjpdopmaa
open Go.RowKit
set_option linter.unusedVariables false

/-- The log behind Commit. -/
def coP (P : PL) (i : Int) : PL := P.mk' P.h P.s (max P.c (min i P.li)) P.g P.a
theorem coP_ok {P : PL} (h : P.Ok) (i : Int) : (coP P i).Ok :=
  h.mk' h.ba h.ag (by have := h.gc; omega) (by have := h.cl; omega) h.gs h.sh h.hl
theorem co_moved (P : PL) (i : Int) : moved P P.h P.s (max P.c (min i P.li)) P.g P.a = decide (P.c < min i P.li) := by
  unfold moved
  by_cases h : P.c < min i P.li
  · have : (max P.c (min i P.li) == P.c) = false := by simp; omega
    simp [this]; omega
  · have : max P.c (min i P.li) = P.c := by omega
    simp [this]; omega

set_option maxRecDepth 100000 in
set_option maxHeartbeats 4000000 in
/-- Commit. -/
theorem Commit_any {N : Nat} {S : Nat → Prop} {w : World} {b : Nat} {P : PL} (h : Lg N S w b P) (hN : N ≤ w.heap.size) (i : Int) :
    Calls Try.prog 29 #[.pointer (some ⟨b, 0, none⟩), .int .i64 i] w fun e w' => e = .returned (.bool (decide (P.c < min i P.li))) ∧ LK N S w w' b (coP P i) := by
  obtain ⟨va, vc, es, hb, -⟩ := h.cells
  have hbw := h.inn _ h.Sb
  obtain ⟨⟨-, -, -, m3, m4, m5, m6, m7⟩, -⟩ := cells8 hb
  obtain ⟨X, HX⟩ : ∃ X, Hid (max P.c (min i P.li) = X) := ⟨_, rfl⟩
  have HMV : Hid (∀ w1, Below w.heap.size w w1 → Calls Try.prog 78 #[.pointer (some ⟨b, 0, none⟩), .agg #[.int .i64 P.h, .int .i64 P.s, .int .i64 X, .int .i64 P.g, .int .i64 P.a]] w1 fun e w' => e = .returned (.bool (decide (P.c < min i P.li))) ∧ LK N S w w' b (coP P i)) := fun w1 hB => by
    have hm := move_any (h.below hB) (by have := hB.size; omega) P.h P.s X P.g P.a (by rw [← HX.out]; exact coP_ok h.ok i)
    rw [← HX.out, co_moved] at hm
    rw [← HX.out]
    exact hm.mono (fun e w' h1 => ⟨h1.1, h1.2.pre hB⟩)
  have HLL : Hid (∀ w1, Below w.heap.size w w1 → Calls Try.prog 69 #[.pointer (some ⟨b, 0, none⟩)] w1 fun e w' => e = .returned (.agg #[.int .i64 P.li, .int .i64 P.lt]) ∧ Below w1.heap.size w1 w') := fun w1 hB => last_any (h.below hB)
  obtain ⟨R, HR⟩ : ∃ R, Hid (decide (P.c < min i P.li) = R) := ⟨_, rfl⟩
  obtain ⟨W1, hW1⟩ : ∃ W1, w.alloc (.cells #[.int .i64 P.h, .int .i64 P.s, .int .i64 P.c, .int .i64 P.g, .int .i64 P.a] 55) = W1 := ⟨_, rfl⟩
  have HW1 : Hid (w.alloc (.cells #[.int .i64 P.h, .int .i64 P.s, .int .i64 P.c, .int .i64 P.g, .int .i64 P.a] 55) = W1) := hW1
  have HB1 : Hid (Below w.heap.size w W1) := by show Below _ _ _; rw [← hW1]; exact (Below.refl _ w).alloc (Nat.le_refl _) _
  have HX1 : Hid (∀ w2, Below W1.heap.size W1 w2 → w2.heap[w.heap.size]? = some (.cells #[.int .i64 P.h, .int .i64 P.s, .int .i64 P.c, .int .i64 P.g, .int .i64 P.a] 55 (0, 0))) := fun w2 h2 => (h2.block _ (by rw [← hW1]; simp)).trans (by rw [← hW1]; exact heap_alloc_new w _)
  rw [HR.out] at HMV ⊢
  obtain ⟨⟨y0, y1, y2, y3, y4⟩, yf⟩ := cells5 (HX1.out W1 (Below.refl _ _))
  have HLW := HLL.out W1.drew HB1.out.drew
  have HEND : Hid (∀ w2, Below W1.heap.size W1 w2 → Calls Try.prog 78 #[.pointer (some ⟨b, 0, none⟩), .agg #[.int .i64 P.h, .int .i64 P.s, .int .i64 X, .int .i64 P.g, .int .i64 P.a]] (w2.setCell ⟨w.heap.size, 2, none⟩ (.int .i64 X)) fun e w' => e = .returned (.bool R) ∧ LK N S w w' b (coP P i)) := fun w2 h2 => HMV.out _ ((HB1.out.trans (h2.mono HB1.out.size)).setCell (by simp) _)
  have hfi := place_index
  clear h hb hW1 HLL HMV
  generalize P.h = h0 at *
  generalize P.s = s0 at *
  generalize P.c = c0 at *
  generalize P.g = g0 at *
  generalize P.a = a0 at *
  generalize P.li = li at *
  generalize P.lt = lt at *
  obtain ⟨Y, hY, hcase⟩ : ∃ Y, Hid (min i li = Y) ∧ ((i ≤ li ∧ Y = i) ∨ (li < i ∧ Y = li)) := ⟨_, rfl, by omega⟩
  rcases hcase with ⟨a1, hy⟩ | ⟨a1, hy⟩
  · rw [hy] at hY
    clear hy
    by_cases a2 : c0 < i
    · have hx : X = i := by have h1 := hY.out; have h2 := HX.out; rw [h1] at h2; omega
      rw [hx] at HEND
      clear hx HX hY
      go_enter Try.func29, Try.ntmps29
      go_wp2_with fail
      rw [HW1.out]
      go_region_law (first
        | (go_simp; go_at_call 69; refine HLW.mono ?_; rintro r w2 ⟨rfl, hB2'⟩; have hB2 : Below W1.heap.size W1 w2 := ⟨hB2'.os, hB2'.tape, hB2'.output, hB2'.size, hB2'.block⟩; obtain ⟨⟨z0, z1, z2, z3, z4⟩, zf⟩ := cells5 (HX1.out w2 hB2); clear hB2')
        | fail)
      all_goals (go_wp2_with (go_at_call 78; refine (HEND.out w2 hB2).mono ?_; rintro r w3 ⟨rfl, hT⟩))
      all_goals (go_ret; exact ⟨rfl, hT⟩)
    · have hx : X = c0 := by have h1 := hY.out; have h2 := HX.out; rw [h1] at h2; omega
      rw [hx] at HEND
      clear hx HX hY
      go_enter Try.func29, Try.ntmps29
      go_wp2_with fail
      rw [HW1.out]
      go_region_law (first
        | (go_simp; go_at_call 69; refine HLW.mono ?_; rintro r w2 ⟨rfl, hB2'⟩; have hB2 : Below W1.heap.size W1 w2 := ⟨hB2'.os, hB2'.tape, hB2'.output, hB2'.size, hB2'.block⟩; obtain ⟨⟨z0, z1, z2, z3, z4⟩, zf⟩ := cells5 (HX1.out w2 hB2); clear hB2')
        | fail)
      all_goals (go_wp2_with (go_at_call 78; refine (HEND.out w2 hB2).mono ?_; rintro r w3 ⟨rfl, hT⟩))
      all_goals (go_ret; exact ⟨rfl, hT⟩)
  · rw [hy] at hY
    clear hy
    by_cases a2 : c0 < li
    · have hx : X = li := by have h1 := hY.out; have h2 := HX.out; rw [h1] at h2; omega
      rw [hx] at HEND
      clear hx HX hY
      go_enter Try.func29, Try.ntmps29
      go_wp2_with fail
      rw [HW1.out]
      go_region_law (first
        | (go_simp; go_at_call 69; refine HLW.mono ?_; rintro r w2 ⟨rfl, hB2'⟩; have hB2 : Below W1.heap.size W1 w2 := ⟨hB2'.os, hB2'.tape, hB2'.output, hB2'.size, hB2'.block⟩; obtain ⟨⟨z0, z1, z2, z3, z4⟩, zf⟩ := cells5 (HX1.out w2 hB2); clear hB2')
        | fail)
      all_goals (go_wp2_with (go_at_call 78; refine (HEND.out w2 hB2).mono ?_; rintro r w3 ⟨rfl, hT⟩))
      all_goals (go_ret; exact ⟨rfl, hT⟩)
    · have hx : X = c0 := by have h1 := hY.out; have h2 := HX.out; rw [h1] at h2; omega
      rw [hx] at HEND
      clear hx HX hY
      go_enter Try.func29, Try.ntmps29
      go_wp2_with fail
      rw [HW1.out]
      go_region_law (first
        | (go_simp; go_at_call 69; refine HLW.mono ?_; rintro r w2 ⟨rfl, hB2'⟩; have hB2 : Below W1.heap.size W1 w2 := ⟨hB2'.os, hB2'.tape, hB2'.output, hB2'.size, hB2'.block⟩; obtain ⟨⟨z0, z1, z2, z3, z4⟩, zf⟩ := cells5 (HX1.out w2 hB2); clear hB2')
        | fail)
      all_goals (go_wp2_with (go_at_call 78; refine (HEND.out w2 hB2).mono ?_; rintro r w3 ⟨rfl, hT⟩))
      all_goals (go_ret; exact ⟨rfl, hT⟩)
end Go.Proofs.Yteekpfgjpdopmaa
