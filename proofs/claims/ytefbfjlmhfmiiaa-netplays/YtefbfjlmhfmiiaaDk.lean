/-
  does: Spoil, Move, Link, Clear.
-/
import Derived.Test.YtefbfjlmhfmiiaaDo3
import Derived.Test.YtefbfjlmhfmiiaaRf
namespace Go.Proofs.Ytefbfjlmhfmiiaa
open Go.RowKit
set_option linter.unusedVariables false

set_option maxRecDepth 100000 in
set_option maxHeartbeats 8000000 in
theorem does4 {N : Nat} {S T : Nat → Prop} {w : World} {b c : Nat} {P : PN} {C : List Pr} (h : Bo N S T w b c P C) (hN : N ≤ w.heap.size) (A B : Int) (up : Bool) (v : Value) (hk : B ≤ 9223372036854775807) :
    Calls Try.prog 11 #[.pointer (some ⟨b, 0, none⟩), .pointer (some ⟨c, 0, none⟩), .agg #[.int .i64 4, .int .i64 A, .int .i64 B, .bool up, v]] w fun r w' => r = .returned (.bool true) ∧ ∃ S' T' C', Bo N S' T' w' b c (P.spoil A B) C' ∧ Below N w w' ∧ C'.length ≤ C.length + 1 := by
  obtain ⟨W0, hW0⟩ : ∃ W0, w.alloc (.cells #[.int .i64 4, .int .i64 A, .int .i64 B, .bool up, v] 32) = W0 := ⟨_, rfl⟩
  have HW0 : Hid (w.alloc (.cells #[.int .i64 4, .int .i64 A, .int .i64 B, .bool up, v] 32) = W0) := hW0
  have hB0 : Below w.heap.size w W0 := by rw [← hW0]; exact (Below.refl _ w).alloc (Nat.le_refl _) _
  have hB : Below w.heap.size w W0.drew := below_drewN hB0 1
  have hz0 : W0.heap.size = w.heap.size + 1 := by rw [← hW0]; simp
  have hzd : W0.drew.heap.size = w.heap.size + 1 := hz0
  have hbx : W0.heap[w.heap.size]? = some (.cells #[.int .i64 4, .int .i64 A, .int .i64 B, .bool up, v] 32 (0, 0)) := by rw [← hW0]; exact heap_alloc_new w _
  have hbx' : W0.drew.heap[w.heap.size]? = some (.cells #[.int .i64 4, .int .i64 A, .int .i64 B, .bool up, v] 32 (0, 0)) := hbx
  have hp : (W0.cell? ⟨w.heap.size, 1, none⟩ = some (.int .i64 A) ∧ W0.cell? ⟨w.heap.size, 2, none⟩ = some (.int .i64 B) ∧ W0.cell? ⟨w.heap.size, 3, none⟩ = some (.bool up)) := ⟨by simp only [World.cell?, hbx]; rfl, by simp only [World.cell?, hbx]; rfl, by simp only [World.cell?, hbx]; rfl⟩
  obtain ⟨p1, p2, p3⟩ := hp
  have h0 := h.below hB
  have hN0 : N ≤ W0.drew.heap.size := by omega
  have HC1 : Hid (Calls _ _ _ _ _) := Spoil_any h0.nt hN0 A B hk
  have HX : Hid (∀ {S9 : Nat → Prop} {w1 w2 : World}, w1.heap[w.heap.size]? = W0.drew.heap[w.heap.size]? → w.heap.size < w1.heap.size → Out S9 w1 w2 → (∀ i, S9 i → i < w.heap.size) → w2.heap[w.heap.size]? = W0.drew.heap[w.heap.size]? ∧ (w2.cell? ⟨w.heap.size, 1, none⟩ = some (.int .i64 A) ∧ w2.cell? ⟨w.heap.size, 2, none⟩ = some (.int .i64 B) ∧ w2.cell? ⟨w.heap.size, 3, none⟩ = some (.bool up))) := fun e1 hz hO hs => by
    have e2 := (hO.block w.heap.size hz (fun h9 => by have := hs _ h9; omega)).trans e1
    refine ⟨e2, ?_, ?_, ?_⟩
    all_goals (simp only [World.cell?, e2, hbx']; rfl)
  have HC2 : Hid (∀ w1, NTh N S W0.drew w1 b (P.spoil A B) → (w1.cell? ⟨w.heap.size, 1, none⟩ = some (.int .i64 A) ∧ w1.cell? ⟨w.heap.size, 2, none⟩ = some (.int .i64 B) ∧ w1.cell? ⟨w.heap.size, 3, none⟩ = some (.bool up)) ∧ Calls Try.prog 33 #[.pointer (some ⟨c, 0, none⟩), .int .i64 A, .int .i64 B] w1 fun r w2 => r = .returned (.bool (P.spl A B)) ∧ (w2.cell? ⟨w.heap.size, 1, none⟩ = some (.int .i64 A) ∧ w2.cell? ⟨w.heap.size, 2, none⟩ = some (.int .i64 B) ∧ w2.cell? ⟨w.heap.size, 3, none⟩ = some (.bool up)) ∧ ∃ S' T' C', Bo N S' T' w2 b c (P.spoil A B) C' ∧ Below N w w2 ∧ C'.length ≤ C.length + 1) := fun w1 h1 => by
    have hz1 := h1.out.size
    obtain ⟨e1, c1⟩ := HX.out (w1 := W0.drew) rfl (by omega) h1.out (fun i hi => h.nt.inn i hi)
    refine ⟨c1, (RSpoil_any (h0.mid h1) (by omega) A B hk).mono ?_⟩
    rintro r w2 ⟨rfl, h2⟩
    obtain ⟨h3, h4⟩ := h0.step hN0 h1 h2
    exact ⟨rfl, (HX.out e1 (by omega) h2.out (fun i hi => h.rn.inn i hi)).2, _, _, _, h3, (hB.mono hN).trans h4, by omega⟩
  clear h h0 hB hB0 hbx hbx' hzd hN0 HX hW0
  generalize P.spl A B = u at *
  go_enter Try.func11, Try.ntmps11
  go_wp2_with fail
  rw [HW0.out]
  clear HW0
  go_region_held3 (fun wx => (wx.cell? ⟨w.heap.size, 1, none⟩ = some (.int .i64 A) ∧ wx.cell? ⟨w.heap.size, 2, none⟩ = some (.int .i64 B) ∧ wx.cell? ⟨w.heap.size, 3, none⟩ = some (.bool up))) (first | exact ⟨t1, t2, t3⟩ | exact ⟨s1, s2, s3⟩ | go_keep)
    (first
      | (go_at_call 21; refine HC1.out.mono ?_; rintro r w1 ⟨rfl, h1⟩; obtain ⟨⟨s1, s2, s3⟩, hc2⟩ := HC2.out w1 h1; have HC3 : Hid (Calls _ _ _ _ _) := hc2; clear hc2 h1)
      | (go_at_call 33; refine HC3.out.mono ?_; rintro r w2 ⟨rfl, ⟨t1, t2, t3⟩, hb⟩; have HBO : Hid (∃ S' T' C', Bo N S' T' w2 b c (P.spoil A B) C' ∧ Below N w w2 ∧ C'.length ≤ C.length + 1) := hb; clear hb)
      | fail)
  go_wp2
  go_ret
  exact ⟨by simp, HBO.out⟩
set_option maxRecDepth 100000 in
set_option maxHeartbeats 8000000 in
theorem does5 {N : Nat} {S T : Nat → Prop} {w : World} {b c : Nat} {P : PN} {C : List Pr} (h : Bo N S T w b c P C) (hN : N ≤ w.heap.size) (A B : Int) (up : Bool) (v : Value) :
    Calls Try.prog 11 #[.pointer (some ⟨b, 0, none⟩), .pointer (some ⟨c, 0, none⟩), .agg #[.int .i64 5, .int .i64 A, .int .i64 B, .bool up, v]] w fun r w' => r = .returned (.bool true) ∧ ∃ S' T' C', Bo N S' T' w' b c (P.move A B) C' ∧ Below N w w' ∧ C'.length ≤ C.length + 1 := by
  obtain ⟨W0, hW0⟩ : ∃ W0, w.alloc (.cells #[.int .i64 5, .int .i64 A, .int .i64 B, .bool up, v] 32) = W0 := ⟨_, rfl⟩
  have HW0 : Hid (w.alloc (.cells #[.int .i64 5, .int .i64 A, .int .i64 B, .bool up, v] 32) = W0) := hW0
  have hB0 : Below w.heap.size w W0 := by rw [← hW0]; exact (Below.refl _ w).alloc (Nat.le_refl _) _
  have hB : Below w.heap.size w W0.drew := below_drewN hB0 1
  have hz0 : W0.heap.size = w.heap.size + 1 := by rw [← hW0]; simp
  have hzd : W0.drew.heap.size = w.heap.size + 1 := hz0
  have hbx : W0.heap[w.heap.size]? = some (.cells #[.int .i64 5, .int .i64 A, .int .i64 B, .bool up, v] 32 (0, 0)) := by rw [← hW0]; exact heap_alloc_new w _
  have hbx' : W0.drew.heap[w.heap.size]? = some (.cells #[.int .i64 5, .int .i64 A, .int .i64 B, .bool up, v] 32 (0, 0)) := hbx
  have hp : (W0.cell? ⟨w.heap.size, 1, none⟩ = some (.int .i64 A) ∧ W0.cell? ⟨w.heap.size, 2, none⟩ = some (.int .i64 B) ∧ W0.cell? ⟨w.heap.size, 3, none⟩ = some (.bool up)) := ⟨by simp only [World.cell?, hbx]; rfl, by simp only [World.cell?, hbx]; rfl, by simp only [World.cell?, hbx]; rfl⟩
  obtain ⟨p1, p2, p3⟩ := hp
  have h0 := h.below hB
  have hN0 : N ≤ W0.drew.heap.size := by omega
  have HC1 : Hid (Calls _ _ _ _ _) := Move_any h0.nt hN0 A B
  have HX : Hid (∀ {S9 : Nat → Prop} {w1 w2 : World}, w1.heap[w.heap.size]? = W0.drew.heap[w.heap.size]? → w.heap.size < w1.heap.size → Out S9 w1 w2 → (∀ i, S9 i → i < w.heap.size) → w2.heap[w.heap.size]? = W0.drew.heap[w.heap.size]? ∧ (w2.cell? ⟨w.heap.size, 1, none⟩ = some (.int .i64 A) ∧ w2.cell? ⟨w.heap.size, 2, none⟩ = some (.int .i64 B) ∧ w2.cell? ⟨w.heap.size, 3, none⟩ = some (.bool up))) := fun e1 hz hO hs => by
    have e2 := (hO.block w.heap.size hz (fun h9 => by have := hs _ h9; omega)).trans e1
    refine ⟨e2, ?_, ?_, ?_⟩
    all_goals (simp only [World.cell?, e2, hbx']; rfl)
  have HC2 : Hid (∀ w1, NTh N S W0.drew w1 b (P.move A B) → (w1.cell? ⟨w.heap.size, 1, none⟩ = some (.int .i64 A) ∧ w1.cell? ⟨w.heap.size, 2, none⟩ = some (.int .i64 B) ∧ w1.cell? ⟨w.heap.size, 3, none⟩ = some (.bool up)) ∧ Calls Try.prog 34 #[.pointer (some ⟨c, 0, none⟩), .int .i64 A, .int .i64 B] w1 fun r w2 => r = .returned (.bool (P.mov A B)) ∧ (w2.cell? ⟨w.heap.size, 1, none⟩ = some (.int .i64 A) ∧ w2.cell? ⟨w.heap.size, 2, none⟩ = some (.int .i64 B) ∧ w2.cell? ⟨w.heap.size, 3, none⟩ = some (.bool up)) ∧ ∃ S' T' C', Bo N S' T' w2 b c (P.move A B) C' ∧ Below N w w2 ∧ C'.length ≤ C.length + 1) := fun w1 h1 => by
    have hz1 := h1.out.size
    obtain ⟨e1, c1⟩ := HX.out (w1 := W0.drew) rfl (by omega) h1.out (fun i hi => h.nt.inn i hi)
    refine ⟨c1, (RMove_any (h0.mid h1) (by omega) A B).mono ?_⟩
    rintro r w2 ⟨rfl, h2⟩
    obtain ⟨h3, h4⟩ := h0.step hN0 h1 h2
    exact ⟨rfl, (HX.out e1 (by omega) h2.out (fun i hi => h.rn.inn i hi)).2, _, _, _, h3, (hB.mono hN).trans h4, by omega⟩
  clear h h0 hB hB0 hbx hbx' hzd hN0 HX hW0
  generalize P.mov A B = u at *
  go_enter Try.func11, Try.ntmps11
  go_wp2_with fail
  rw [HW0.out]
  clear HW0
  go_region_held3 (fun wx => (wx.cell? ⟨w.heap.size, 1, none⟩ = some (.int .i64 A) ∧ wx.cell? ⟨w.heap.size, 2, none⟩ = some (.int .i64 B) ∧ wx.cell? ⟨w.heap.size, 3, none⟩ = some (.bool up))) (first | exact ⟨t1, t2, t3⟩ | exact ⟨s1, s2, s3⟩ | go_keep)
    (first
      | (go_at_call 22; refine HC1.out.mono ?_; rintro r w1 ⟨rfl, h1⟩; obtain ⟨⟨s1, s2, s3⟩, hc2⟩ := HC2.out w1 h1; have HC3 : Hid (Calls _ _ _ _ _) := hc2; clear hc2 h1)
      | (go_at_call 34; refine HC3.out.mono ?_; rintro r w2 ⟨rfl, ⟨t1, t2, t3⟩, hb⟩; have HBO : Hid (∃ S' T' C', Bo N S' T' w2 b c (P.move A B) C' ∧ Below N w w2 ∧ C'.length ≤ C.length + 1) := hb; clear hb)
      | fail)
  go_wp2
  go_ret
  exact ⟨by simp, HBO.out⟩
set_option maxRecDepth 100000 in
set_option maxHeartbeats 8000000 in
theorem does6 {N : Nat} {S T : Nat → Prop} {w : World} {b c : Nat} {P : PN} {C : List Pr} (h : Bo N S T w b c P C) (hN : N ≤ w.heap.size) (A B : Int) (up : Bool) (v : Value) (hk : C.length ≤ 100000) :
    Calls Try.prog 11 #[.pointer (some ⟨b, 0, none⟩), .pointer (some ⟨c, 0, none⟩), .agg #[.int .i64 6, .int .i64 A, .int .i64 B, .bool up, v]] w fun r w' => r = .returned (.bool true) ∧ ∃ S' T' C', Bo N S' T' w' b c (P.link A B up) C' ∧ Below N w w' ∧ C'.length ≤ C.length + 1 := by
  obtain ⟨W0, hW0⟩ : ∃ W0, w.alloc (.cells #[.int .i64 6, .int .i64 A, .int .i64 B, .bool up, v] 32) = W0 := ⟨_, rfl⟩
  have HW0 : Hid (w.alloc (.cells #[.int .i64 6, .int .i64 A, .int .i64 B, .bool up, v] 32) = W0) := hW0
  have hB0 : Below w.heap.size w W0 := by rw [← hW0]; exact (Below.refl _ w).alloc (Nat.le_refl _) _
  have hB : Below w.heap.size w W0.drew := below_drewN hB0 1
  have hz0 : W0.heap.size = w.heap.size + 1 := by rw [← hW0]; simp
  have hzd : W0.drew.heap.size = w.heap.size + 1 := hz0
  have hbx : W0.heap[w.heap.size]? = some (.cells #[.int .i64 6, .int .i64 A, .int .i64 B, .bool up, v] 32 (0, 0)) := by rw [← hW0]; exact heap_alloc_new w _
  have hbx' : W0.drew.heap[w.heap.size]? = some (.cells #[.int .i64 6, .int .i64 A, .int .i64 B, .bool up, v] 32 (0, 0)) := hbx
  have hp : (W0.cell? ⟨w.heap.size, 1, none⟩ = some (.int .i64 A) ∧ W0.cell? ⟨w.heap.size, 2, none⟩ = some (.int .i64 B) ∧ W0.cell? ⟨w.heap.size, 3, none⟩ = some (.bool up)) := ⟨by simp only [World.cell?, hbx]; rfl, by simp only [World.cell?, hbx]; rfl, by simp only [World.cell?, hbx]; rfl⟩
  obtain ⟨p1, p2, p3⟩ := hp
  have h0 := h.below hB
  have hN0 : N ≤ W0.drew.heap.size := by omega
  have HC1 : Hid (Calls _ _ _ _ _) := Link_any h0.nt hN0 A B up
  have HX : Hid (∀ {S9 : Nat → Prop} {w1 w2 : World}, w1.heap[w.heap.size]? = W0.drew.heap[w.heap.size]? → w.heap.size < w1.heap.size → Out S9 w1 w2 → (∀ i, S9 i → i < w.heap.size) → w2.heap[w.heap.size]? = W0.drew.heap[w.heap.size]? ∧ (w2.cell? ⟨w.heap.size, 1, none⟩ = some (.int .i64 A) ∧ w2.cell? ⟨w.heap.size, 2, none⟩ = some (.int .i64 B) ∧ w2.cell? ⟨w.heap.size, 3, none⟩ = some (.bool up))) := fun e1 hz hO hs => by
    have e2 := (hO.block w.heap.size hz (fun h9 => by have := hs _ h9; omega)).trans e1
    refine ⟨e2, ?_, ?_, ?_⟩
    all_goals (simp only [World.cell?, e2, hbx']; rfl)
  have HC2 : Hid (∀ w1, NTh N S W0.drew w1 b (P.link A B up) → (w1.cell? ⟨w.heap.size, 1, none⟩ = some (.int .i64 A) ∧ w1.cell? ⟨w.heap.size, 2, none⟩ = some (.int .i64 B) ∧ w1.cell? ⟨w.heap.size, 3, none⟩ = some (.bool up)) ∧ Calls Try.prog 35 #[.pointer (some ⟨c, 0, none⟩), .int .i64 A, .int .i64 B, .bool up] w1 fun r w2 => r = .returned (.bool (P.two A B)) ∧ (w2.cell? ⟨w.heap.size, 1, none⟩ = some (.int .i64 A) ∧ w2.cell? ⟨w.heap.size, 2, none⟩ = some (.int .i64 B) ∧ w2.cell? ⟨w.heap.size, 3, none⟩ = some (.bool up)) ∧ ∃ S' T' C', Bo N S' T' w2 b c (P.link A B up) C' ∧ Below N w w2 ∧ C'.length ≤ C.length + 1) := fun w1 h1 => by
    have hz1 := h1.out.size
    obtain ⟨e1, c1⟩ := HX.out (w1 := W0.drew) rfl (by omega) h1.out (fun i hi => h.nt.inn i hi)
    refine ⟨c1, (RLink_any (h0.mid h1) (by omega) A B up hk).mono ?_⟩
    rintro r w2 ⟨rfl, C9, h2, h29⟩
    obtain ⟨h3, h4⟩ := h0.step hN0 h1 h2
    exact ⟨rfl, (HX.out e1 (by omega) h2.out (fun i hi => h.rn.inn i hi)).2, _, _, _, h3, (hB.mono hN).trans h4, h29⟩
  clear h h0 hB hB0 hbx hbx' hzd hN0 HX hW0
  generalize P.two A B = u at *
  go_enter Try.func11, Try.ntmps11
  go_wp2_with fail
  rw [HW0.out]
  clear HW0
  go_region_held3 (fun wx => (wx.cell? ⟨w.heap.size, 1, none⟩ = some (.int .i64 A) ∧ wx.cell? ⟨w.heap.size, 2, none⟩ = some (.int .i64 B) ∧ wx.cell? ⟨w.heap.size, 3, none⟩ = some (.bool up))) (first | exact ⟨t1, t2, t3⟩ | exact ⟨s1, s2, s3⟩ | go_keep)
    (first
      | (go_at_call 23; refine HC1.out.mono ?_; rintro r w1 ⟨rfl, h1, -⟩; obtain ⟨⟨s1, s2, s3⟩, hc2⟩ := HC2.out w1 h1; have HC3 : Hid (Calls _ _ _ _ _) := hc2; clear hc2 h1)
      | (go_at_call 35; refine HC3.out.mono ?_; rintro r w2 ⟨rfl, ⟨t1, t2, t3⟩, hb⟩; have HBO : Hid (∃ S' T' C', Bo N S' T' w2 b c (P.link A B up) C' ∧ Below N w w2 ∧ C'.length ≤ C.length + 1) := hb; clear hb)
      | fail)
  go_wp2
  go_ret
  exact ⟨by simp, HBO.out⟩
set_option maxRecDepth 100000 in
set_option maxHeartbeats 8000000 in
theorem does7 {N : Nat} {S T : Nat → Prop} {w : World} {b c : Nat} {P : PN} {C : List Pr} (h : Bo N S T w b c P C) (hN : N ≤ w.heap.size) (A B : Int) (up : Bool) (v : Value) :
    Calls Try.prog 11 #[.pointer (some ⟨b, 0, none⟩), .pointer (some ⟨c, 0, none⟩), .agg #[.int .i64 7, .int .i64 A, .int .i64 B, .bool up, v]] w fun r w' => r = .returned (.bool true) ∧ ∃ S' T' C', Bo N S' T' w' b c (P.clear A) C' ∧ Below N w w' ∧ C'.length ≤ C.length + 1 := by
  obtain ⟨W0, hW0⟩ : ∃ W0, w.alloc (.cells #[.int .i64 7, .int .i64 A, .int .i64 B, .bool up, v] 32) = W0 := ⟨_, rfl⟩
  have HW0 : Hid (w.alloc (.cells #[.int .i64 7, .int .i64 A, .int .i64 B, .bool up, v] 32) = W0) := hW0
  have hB0 : Below w.heap.size w W0 := by rw [← hW0]; exact (Below.refl _ w).alloc (Nat.le_refl _) _
  have hB : Below w.heap.size w W0.drew := below_drewN hB0 1
  have hz0 : W0.heap.size = w.heap.size + 1 := by rw [← hW0]; simp
  have hzd : W0.drew.heap.size = w.heap.size + 1 := hz0
  have hbx : W0.heap[w.heap.size]? = some (.cells #[.int .i64 7, .int .i64 A, .int .i64 B, .bool up, v] 32 (0, 0)) := by rw [← hW0]; exact heap_alloc_new w _
  have hbx' : W0.drew.heap[w.heap.size]? = some (.cells #[.int .i64 7, .int .i64 A, .int .i64 B, .bool up, v] 32 (0, 0)) := hbx
  have hp : (W0.cell? ⟨w.heap.size, 1, none⟩ = some (.int .i64 A) ∧ W0.cell? ⟨w.heap.size, 2, none⟩ = some (.int .i64 B) ∧ W0.cell? ⟨w.heap.size, 3, none⟩ = some (.bool up)) := ⟨by simp only [World.cell?, hbx]; rfl, by simp only [World.cell?, hbx]; rfl, by simp only [World.cell?, hbx]; rfl⟩
  obtain ⟨p1, p2, p3⟩ := hp
  have h0 := h.below hB
  have hN0 : N ≤ W0.drew.heap.size := by omega
  have HC1 : Hid (Calls _ _ _ _ _) := Clear_any h0.nt hN0 A
  have HX : Hid (∀ {S9 : Nat → Prop} {w1 w2 : World}, w1.heap[w.heap.size]? = W0.drew.heap[w.heap.size]? → w.heap.size < w1.heap.size → Out S9 w1 w2 → (∀ i, S9 i → i < w.heap.size) → w2.heap[w.heap.size]? = W0.drew.heap[w.heap.size]? ∧ (w2.cell? ⟨w.heap.size, 1, none⟩ = some (.int .i64 A) ∧ w2.cell? ⟨w.heap.size, 2, none⟩ = some (.int .i64 B) ∧ w2.cell? ⟨w.heap.size, 3, none⟩ = some (.bool up))) := fun e1 hz hO hs => by
    have e2 := (hO.block w.heap.size hz (fun h9 => by have := hs _ h9; omega)).trans e1
    refine ⟨e2, ?_, ?_, ?_⟩
    all_goals (simp only [World.cell?, e2, hbx']; rfl)
  have HC2 : Hid (∀ w1, NTh N S W0.drew w1 b (P.clear A) → (w1.cell? ⟨w.heap.size, 1, none⟩ = some (.int .i64 A) ∧ w1.cell? ⟨w.heap.size, 2, none⟩ = some (.int .i64 B) ∧ w1.cell? ⟨w.heap.size, 3, none⟩ = some (.bool up)) ∧ Calls Try.prog 36 #[.pointer (some ⟨c, 0, none⟩), .int .i64 A] w1 fun r w2 => r = .returned (.int .i64 (P.clr A)) ∧ (w2.cell? ⟨w.heap.size, 1, none⟩ = some (.int .i64 A) ∧ w2.cell? ⟨w.heap.size, 2, none⟩ = some (.int .i64 B) ∧ w2.cell? ⟨w.heap.size, 3, none⟩ = some (.bool up)) ∧ ∃ S' T' C', Bo N S' T' w2 b c (P.clear A) C' ∧ Below N w w2 ∧ C'.length ≤ C.length + 1) := fun w1 h1 => by
    have hz1 := h1.out.size
    obtain ⟨e1, c1⟩ := HX.out (w1 := W0.drew) rfl (by omega) h1.out (fun i hi => h.nt.inn i hi)
    refine ⟨c1, (RClear_any (h0.mid h1) (by omega) A).mono ?_⟩
    rintro r w2 ⟨rfl, h2⟩
    obtain ⟨h3, h4⟩ := h0.step hN0 h1 h2
    exact ⟨rfl, (HX.out e1 (by omega) h2.out (fun i hi => h.rn.inn i hi)).2, _, _, _, h3, (hB.mono hN).trans h4, by omega⟩
  clear h h0 hB hB0 hbx hbx' hzd hN0 HX hW0
  generalize P.clr A = u at *
  go_enter Try.func11, Try.ntmps11
  go_wp2_with fail
  rw [HW0.out]
  clear HW0
  go_region_held3 (fun wx => (wx.cell? ⟨w.heap.size, 1, none⟩ = some (.int .i64 A) ∧ wx.cell? ⟨w.heap.size, 2, none⟩ = some (.int .i64 B) ∧ wx.cell? ⟨w.heap.size, 3, none⟩ = some (.bool up))) (first | exact ⟨t1, t2, t3⟩ | exact ⟨s1, s2, s3⟩ | go_keep)
    (first
      | (go_at_call 24; refine HC1.out.mono ?_; rintro r w1 ⟨rfl, h1⟩; obtain ⟨⟨s1, s2, s3⟩, hc2⟩ := HC2.out w1 h1; have HC3 : Hid (Calls _ _ _ _ _) := hc2; clear hc2 h1)
      | (go_at_call 36; refine HC3.out.mono ?_; rintro r w2 ⟨rfl, ⟨t1, t2, t3⟩, hb⟩; have HBO : Hid (∃ S' T' C', Bo N S' T' w2 b c (P.clear A) C' ∧ Below N w w2 ∧ C'.length ≤ C.length + 1) := hb; clear hb)
      | fail)
  go_wp2
  go_ret
  exact ⟨by simp, HBO.out⟩
end Go.Proofs.Ytefbfjlmhfmiiaa
