/-
  does: Copy.
-/
import Derived.Test.YtefbfjlmhfmiiaaBo
namespace Go.Proofs.Ytefbfjlmhfmiiaa
open Go.RowKit
set_option linter.unusedVariables false

theorem Bo.below {N : Nat} {S T : Nat → Prop} {w w' : World} {b c : Nat} {P : PN} {C : List Pr} (h : Bo N S T w b c P C) (hB : Below w.heap.size w w') : Bo N S T w' b c P C := ⟨h.nt.below hB, h.rn.below hB, h.ap⟩

set_option maxRecDepth 100000 in
set_option maxHeartbeats 8000000 in
theorem does3 {N : Nat} {S T : Nat → Prop} {w : World} {b c : Nat} {P : PN} {C : List Pr} (h : Bo N S T w b c P C) (hN : N ≤ w.heap.size) (hk : P.k < 1000000000) (A B : Int) (up : Bool) (v : Value) :
    Calls Try.prog 11 #[.pointer (some ⟨b, 0, none⟩), .pointer (some ⟨c, 0, none⟩), .agg #[.int .i64 3, .int .i64 A, .int .i64 B, .bool up, v]] w fun r w' => r = .returned (.bool true) ∧ ∃ S' T' C', Bo N S' T' w' b c (P.copy A) C' ∧ Below N w w' ∧ C'.length ≤ C.length + 1 := by
  obtain ⟨W0, hW0⟩ : ∃ W0, w.alloc (.cells #[.int .i64 3, .int .i64 A, .int .i64 B, .bool up, v] 32) = W0 := ⟨_, rfl⟩
  have HW0 : Hid (w.alloc (.cells #[.int .i64 3, .int .i64 A, .int .i64 B, .bool up, v] 32) = W0) := hW0
  have hB0 : Below w.heap.size w W0 := by rw [← hW0]; exact (Below.refl _ w).alloc (Nat.le_refl _) _
  have hB : Below w.heap.size w W0.drew := below_drewN hB0 1
  have hz0 : W0.heap.size = w.heap.size + 1 := by rw [← hW0]; simp
  have hzd : W0.drew.heap.size = w.heap.size + 1 := hz0
  have hbx : W0.heap[w.heap.size]? = some (.cells #[.int .i64 3, .int .i64 A, .int .i64 B, .bool up, v] 32 (0, 0)) := by rw [← hW0]; exact heap_alloc_new w _
  have hbx' : W0.drew.heap[w.heap.size]? = some (.cells #[.int .i64 3, .int .i64 A, .int .i64 B, .bool up, v] 32 (0, 0)) := hbx
  have p1 : W0.cell? ⟨w.heap.size, 1, none⟩ = some (.int .i64 A) := by simp only [World.cell?, hbx]; rfl
  have h0 := h.below hB
  have hN0 : N ≤ W0.drew.heap.size := by omega
  have HC1 : Hid (Calls _ _ _ _ _) := Copy_any h0.nt hN0 A hk
  have HX : Hid (∀ {S9 : Nat → Prop} {w1 w2 : World}, w1.heap[w.heap.size]? = W0.drew.heap[w.heap.size]? → w.heap.size < w1.heap.size → Out S9 w1 w2 → (∀ i, S9 i → i < w.heap.size) → w2.heap[w.heap.size]? = W0.drew.heap[w.heap.size]? ∧ w2.cell? ⟨w.heap.size, 1, none⟩ = some (.int .i64 A)) := fun e1 hz hO hs => by
    have e2 := (hO.block w.heap.size hz (fun h9 => by have := hs _ h9; omega)).trans e1
    refine ⟨e2, ?_⟩
    simp only [World.cell?, e2, hbx']
    rfl
  have HC2 : Hid (∀ w1, NTh N S W0.drew w1 b (P.copy A) → w1.cell? ⟨w.heap.size, 1, none⟩ = some (.int .i64 A) ∧ Calls Try.prog 32 #[.pointer (some ⟨c, 0, none⟩), .int .i64 A] w1 fun r w2 => r = .returned (.bool (P.cpy A)) ∧ w2.cell? ⟨w.heap.size, 1, none⟩ = some (.int .i64 A) ∧ ∃ S' T' C', Bo N S' T' w2 b c (P.copy A) C' ∧ Below N w w2 ∧ C'.length ≤ C.length + 1) := fun w1 h1 => by
    have hz1 := h1.out.size
    obtain ⟨e1, c1⟩ := HX.out (w1 := W0.drew) rfl (by omega) h1.out (fun i hi => h.nt.inn i hi)
    refine ⟨c1, (RCopy_any (h0.mid h1) (by omega) A hk).mono ?_⟩
    rintro r w2 ⟨rfl, h2⟩
    obtain ⟨h3, h4⟩ := h0.step hN0 h1 h2
    exact ⟨rfl, (HX.out e1 (by omega) h2.out (fun i hi => h.rn.inn i hi)).2, _, _, _, h3, (hB.mono hN).trans h4, by omega⟩
  clear h h0 hB hB0 hbx hbx' hzd hN0 HX hW0
  generalize P.cpy A = u at *
  go_enter Try.func11, Try.ntmps11
  go_wp2_with fail
  rw [HW0.out]
  clear HW0
  go_region_held3 (fun wx => wx.cell? ⟨w.heap.size, 1, none⟩ = some (.int .i64 A)) (first | assumption | go_keep)
    (first
      | (go_at_call 20; refine HC1.out.mono ?_; rintro r w1 ⟨rfl, h1⟩; obtain ⟨s1, hc2⟩ := HC2.out w1 h1; have HC3 : Hid (Calls _ _ _ _ _) := hc2; clear hc2 h1)
      | (go_at_call 32; refine HC3.out.mono ?_; rintro r w2 ⟨rfl, s2, hb⟩; have HBO : Hid (∃ S' T' C', Bo N S' T' w2 b c (P.copy A) C' ∧ Below N w w2 ∧ C'.length ≤ C.length + 1) := hb; clear hb)
      | fail)
  go_wp2
  go_ret
  exact ⟨by simp, HBO.out⟩
end Go.Proofs.Ytefbfjlmhfmiiaa
