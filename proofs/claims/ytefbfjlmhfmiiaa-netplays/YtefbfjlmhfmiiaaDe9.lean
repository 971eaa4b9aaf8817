/-
  does: Linked.
-/
import Derived.Test.YtefbfjlmhfmiiaaDt
import Derived.Test.YtefbfjlmhfmiiaaRb
namespace Go.Proofs.Ytefbfjlmhfmiiaa
open Go.RowKit
set_option linter.unusedVariables false

set_option maxRecDepth 100000 in
set_option maxHeartbeats 8000000 in
theorem does9 {N : Nat} {S T : Nat → Prop} {w : World} {b c : Nat} {P : PN} {C : List Pr} (h : Bo N S T w b c P C) (hN : N ≤ w.heap.size) (hC : C.length ≤ 100000) (kd A B : Int) (up : Bool) (v : Value) (h0' : (kd == 0) = false) (h1' : (kd == 1) = false) (h2' : (kd == 2) = false) (h3' : (kd == 3) = false) (h4' : (kd == 4) = false) (h5' : (kd == 5) = false) (h6' : (kd == 6) = false) (h7' : (kd == 7) = false) :
    Calls Try.prog 11 #[.pointer (some ⟨b, 0, none⟩), .pointer (some ⟨c, 0, none⟩), .agg #[.int .i64 kd, .int .i64 A, .int .i64 B, .bool up, v]] w fun r w' => r = .returned (.bool true) ∧ ∃ S' T' C', Bo N S' T' w' b c P C' ∧ Below N w w' ∧ C'.length ≤ C.length + 1 := by
  obtain ⟨W0, hW0⟩ : ∃ W0, w.alloc (.cells #[.int .i64 kd, .int .i64 A, .int .i64 B, .bool up, v] 32) = W0 := ⟨_, rfl⟩
  have HW0 : Hid (w.alloc (.cells #[.int .i64 kd, .int .i64 A, .int .i64 B, .bool up, v] 32) = W0) := hW0
  have hB0 : Below w.heap.size w W0 := by rw [← hW0]; exact (Below.refl _ w).alloc (Nat.le_refl _) _
  have hB : Below w.heap.size w W0.drew := below_drewN hB0 1
  have hz0 : W0.heap.size = w.heap.size + 1 := by rw [← hW0]; simp
  have hzd : W0.drew.heap.size = w.heap.size + 1 := hz0
  have hbx : W0.heap[w.heap.size]? = some (.cells #[.int .i64 kd, .int .i64 A, .int .i64 B, .bool up, v] 32 (0, 0)) := by rw [← hW0]; exact heap_alloc_new w _
  have hbx' : W0.drew.heap[w.heap.size]? = some (.cells #[.int .i64 kd, .int .i64 A, .int .i64 B, .bool up, v] 32 (0, 0)) := hbx
  have hp : (W0.cell? ⟨w.heap.size, 1, none⟩ = some (.int .i64 A) ∧ W0.cell? ⟨w.heap.size, 2, none⟩ = some (.int .i64 B)) := ⟨by simp only [World.cell?, hbx]; rfl, by simp only [World.cell?, hbx]; rfl⟩
  have p0 : W0.cell? ⟨w.heap.size, 0, none⟩ = some (.int .i64 kd) := by simp only [World.cell?, hbx]; rfl
  obtain ⟨p1, p2⟩ := hp
  have h0 := h.below hB
  have hN0 : N ≤ W0.drew.heap.size := by omega
  have HC1 : Hid (Calls _ _ _ _ _) := Linked_any h0.nt A B
  have HC2 : Hid (∀ w1, w1 = W0.drew → (w1.cell? ⟨w.heap.size, 1, none⟩ = some (.int .i64 A) ∧ w1.cell? ⟨w.heap.size, 2, none⟩ = some (.int .i64 B)) ∧ Calls Try.prog 37 #[.pointer (some ⟨c, 0, none⟩), .int .i64 A, .int .i64 B] w1 fun r w2 => r = .returned (.bool (P.lnk A B)) ∧ (w2.cell? ⟨w.heap.size, 1, none⟩ = some (.int .i64 A) ∧ w2.cell? ⟨w.heap.size, 2, none⟩ = some (.int .i64 B)) ∧ ∃ S' T' C', Bo N S' T' w2 b c P C' ∧ Below N w w2 ∧ C'.length ≤ C.length + 1) := fun w1 h1 => by
    subst h1
    refine ⟨⟨p1, p2⟩, (RLinked_any h0.rn A B hC).mono ?_⟩
    rintro r w2 ⟨rfl, hB2⟩
    refine ⟨rfl, ⟨?_, ?_⟩, _, _, _, h0.below hB2, ((hB.mono hN).trans (hB2.mono hN0)), by omega⟩
    · exact (hB2.cell (p := ⟨w.heap.size, 1, none⟩) (by show w.heap.size < W0.drew.heap.size; omega)).trans p1
    · exact (hB2.cell (p := ⟨w.heap.size, 2, none⟩) (by show w.heap.size < W0.drew.heap.size; omega)).trans p2
  clear h h0 hB hB0 hbx hbx' hzd hN0 hW0
  generalize P.lnk A B = u at *
  go_enter Try.func11, Try.ntmps11
  go_wp2_with fail
  rw [HW0.out]
  clear HW0
  go_region_held3 (fun wx => (wx.cell? ⟨w.heap.size, 1, none⟩ = some (.int .i64 A) ∧ wx.cell? ⟨w.heap.size, 2, none⟩ = some (.int .i64 B))) (first | exact ⟨t1, t2⟩ | exact ⟨s1, s2⟩ | go_keep)
    (first
      | (go_at_call 26; refine HC1.out.mono ?_; rintro r w1 ⟨rfl, h1⟩; obtain ⟨⟨s1, s2⟩, hc2⟩ := HC2.out w1 h1; have HC3 : Hid (Calls _ _ _ _ _) := hc2; clear hc2 h1)
      | (go_at_call 37; refine HC3.out.mono ?_; rintro r w2 ⟨rfl, ⟨t1, t2⟩, hb⟩; have HBO : Hid (∃ S' T' C', Bo N S' T' w2 b c P C' ∧ Below N w w2 ∧ C'.length ≤ C.length + 1) := hb; clear hb)
      | fail)
  go_wp2
  go_ret
  exact ⟨by simp, HBO.out⟩
end Go.Proofs.Ytefbfjlmhfmiiaa
