/-
  The document's Step; LinSteps.
-/
import Derived.Test.YtbcnpdpdflkanaaRin
namespace Go.Proofs.Ytbcnpdpdflkanaa
open Go.RowKit

set_option maxRecDepth 100000 in
theorem refStepT_any (v : Bs) (x : Lo) (w : World) : Calls Try.prog 25 #[.bool true, str v, x.v] w fun e w' => e = .returned (stV (step true v x)) ∧ Below w.heap.size w w' := by
  obtain ⟨cl, sq, kind, key, val, old, call, back, rp⟩ := x
  unfold Lo.v
  rcases kinds kind with rfl | rfl | rfl | rfl | ⟨e1, e2, e3, e4⟩
  · rw [show step true v ⟨cl, sq, 1, key, val, old, call, back, rp⟩ = (true, v, ⟨1, v⟩) from rfl]
    unfold stV Rp.v
    dsimp only
    try rw [str0]
    simp only [str]
    generalize (⟨key.toArray⟩ : ByteArray) = s1; generalize (⟨val.toArray⟩ : ByteArray) = s2; generalize (⟨rp.val.toArray⟩ : ByteArray) = s4; generalize (⟨old.toArray⟩ : ByteArray) = s3; generalize (⟨v.toArray⟩ : ByteArray) = sv
    go_enter Try.func25, Try.ntmps25
    go_wp2
    exact bodyPost_ret (results_S rfl _ _ (w.heap.size + 1) rfl rfl rfl (by exact heap2 _ _ _)) rfl ⟨rfl, below2 _ _ _⟩
  · rw [show step true v ⟨cl, sq, 2, key, val, old, call, back, rp⟩ = (true, val, ⟨1, []⟩) from rfl]
    unfold stV Rp.v
    dsimp only
    try rw [str0]
    simp only [str]
    generalize (⟨key.toArray⟩ : ByteArray) = s1; generalize (⟨val.toArray⟩ : ByteArray) = s2; generalize (⟨rp.val.toArray⟩ : ByteArray) = s4; generalize (⟨old.toArray⟩ : ByteArray) = s3; generalize (⟨v.toArray⟩ : ByteArray) = sv
    go_enter Try.func25, Try.ntmps25
    go_wp2
    go_region
    go_wp2
    exact bodyPost_ret (results_S rfl _ _ (w.heap.size + 1) rfl rfl rfl (by exact heap2 _ _ _)) rfl ⟨rfl, Below.drew (below2 _ _ _)⟩
  · rw [show step true v ⟨cl, sq, 3, key, val, old, call, back, rp⟩ = (false, [], ⟨1, []⟩) from rfl]
    unfold stV Rp.v
    dsimp only
    try rw [str0]
    simp only [str]
    generalize (⟨key.toArray⟩ : ByteArray) = s1; generalize (⟨val.toArray⟩ : ByteArray) = s2; generalize (⟨rp.val.toArray⟩ : ByteArray) = s4; generalize (⟨old.toArray⟩ : ByteArray) = s3; generalize (⟨v.toArray⟩ : ByteArray) = sv
    go_enter Try.func25, Try.ntmps25
    go_wp2
    exact bodyPost_ret (results_S rfl _ _ (w.heap.size + 1) rfl rfl rfl (by exact heap2 _ _ _)) rfl ⟨rfl, below2 _ _ _⟩
  · by_cases hv : v = old
    · subst hv
      rw [show step true v ⟨cl, sq, 4, key, val, v, call, back, rp⟩ = (true, val, ⟨1, []⟩) from by simp [step]]
      unfold stV Rp.v
      dsimp only
      try rw [str0]
      simp only [str]
      generalize (⟨key.toArray⟩ : ByteArray) = s1; generalize (⟨val.toArray⟩ : ByteArray) = s2; generalize (⟨rp.val.toArray⟩ : ByteArray) = s4
      go_enter Try.func25, Try.ntmps25
      go_wp2
      go_region
      go_wp2
      exact bodyPost_ret (results_S rfl _ _ (w.heap.size + 1) rfl rfl rfl (by exact heap2 _ _ _)) rfl ⟨rfl, Below.drew (below2 _ _ _)⟩
    · rw [show step true v ⟨cl, sq, 4, key, val, old, call, back, rp⟩ = (true, v, ⟨3, v⟩) from by simp [step, hv]]
      unfold stV Rp.v
      dsimp only
      simp only [str]
      generalize (⟨key.toArray⟩ : ByteArray) = s1; generalize (⟨val.toArray⟩ : ByteArray) = s2; generalize (⟨rp.val.toArray⟩ : ByteArray) = s4
      have hq : (v == old) = false := by simpa using hv
      go_enter Try.func25, Try.ntmps25
      go_wp2
      exact bodyPost_ret (results_S rfl _ _ (w.heap.size + 1) rfl rfl rfl (by exact heap2 _ _ _)) rfl ⟨rfl, below2 _ _ _⟩
  · rw [show step true v ⟨cl, sq, kind, key, val, old, call, back, rp⟩ = (true, v, ⟨0, []⟩) from by simp [step, ne_of_beq_false e1, ne_of_beq_false e2, ne_of_beq_false e3, ne_of_beq_false e4]]
    unfold stV Rp.v
    dsimp only
    try rw [str0]
    simp only [str]
    generalize (⟨key.toArray⟩ : ByteArray) = s1; generalize (⟨val.toArray⟩ : ByteArray) = s2; generalize (⟨rp.val.toArray⟩ : ByteArray) = s4; generalize (⟨old.toArray⟩ : ByteArray) = s3; generalize (⟨v.toArray⟩ : ByteArray) = sv
    go_enter Try.func25, Try.ntmps25
    go_wp2
    exact bodyPost_ret (results_S rfl _ _ (w.heap.size + 1) rfl rfl rfl (by exact heap2 _ _ _)) rfl ⟨rfl, below2 _ _ _⟩

set_option maxRecDepth 100000 in
theorem refStepF_any (v : Bs) (x : Lo) (w : World) : Calls Try.prog 25 #[.bool false, str v, x.v] w fun e w' => e = .returned (stV (step false v x)) ∧ Below w.heap.size w w' := by
  obtain ⟨cl, sq, kind, key, val, old, call, back, rp⟩ := x
  unfold Lo.v
  rcases kinds kind with rfl | rfl | rfl | rfl | ⟨e1, e2, e3, e4⟩
  · rw [show step false v ⟨cl, sq, 1, key, val, old, call, back, rp⟩ = (false, [], ⟨2, []⟩) from rfl]
    unfold stV Rp.v
    dsimp only
    try rw [str0]
    simp only [str]
    generalize (⟨key.toArray⟩ : ByteArray) = s1; generalize (⟨val.toArray⟩ : ByteArray) = s2; generalize (⟨rp.val.toArray⟩ : ByteArray) = s4; generalize (⟨old.toArray⟩ : ByteArray) = s3; generalize (⟨v.toArray⟩ : ByteArray) = sv
    go_enter Try.func25, Try.ntmps25
    go_wp2
    exact bodyPost_ret (results_S rfl _ _ (w.heap.size + 1) rfl rfl rfl (by exact heap2 _ _ _)) rfl ⟨rfl, below2 _ _ _⟩
  · rw [show step false v ⟨cl, sq, 2, key, val, old, call, back, rp⟩ = (true, val, ⟨1, []⟩) from rfl]
    unfold stV Rp.v
    dsimp only
    try rw [str0]
    simp only [str]
    generalize (⟨key.toArray⟩ : ByteArray) = s1; generalize (⟨val.toArray⟩ : ByteArray) = s2; generalize (⟨rp.val.toArray⟩ : ByteArray) = s4; generalize (⟨old.toArray⟩ : ByteArray) = s3; generalize (⟨v.toArray⟩ : ByteArray) = sv
    go_enter Try.func25, Try.ntmps25
    go_wp2
    go_region
    go_wp2
    exact bodyPost_ret (results_S rfl _ _ (w.heap.size + 1) rfl rfl rfl (by exact heap2 _ _ _)) rfl ⟨rfl, Below.drew (below2 _ _ _)⟩
  · rw [show step false v ⟨cl, sq, 3, key, val, old, call, back, rp⟩ = (false, [], ⟨2, []⟩) from rfl]
    unfold stV Rp.v
    dsimp only
    try rw [str0]
    simp only [str]
    generalize (⟨key.toArray⟩ : ByteArray) = s1; generalize (⟨val.toArray⟩ : ByteArray) = s2; generalize (⟨rp.val.toArray⟩ : ByteArray) = s4; generalize (⟨old.toArray⟩ : ByteArray) = s3; generalize (⟨v.toArray⟩ : ByteArray) = sv
    go_enter Try.func25, Try.ntmps25
    go_wp2
    exact bodyPost_ret (results_S rfl _ _ (w.heap.size + 1) rfl rfl rfl (by exact heap2 _ _ _)) rfl ⟨rfl, below2 _ _ _⟩
  · rw [show step false v ⟨cl, sq, 4, key, val, old, call, back, rp⟩ = (false, [], ⟨2, []⟩) from rfl]
    unfold stV Rp.v
    dsimp only
    try rw [str0]
    simp only [str]
    generalize (⟨key.toArray⟩ : ByteArray) = s1; generalize (⟨val.toArray⟩ : ByteArray) = s2; generalize (⟨rp.val.toArray⟩ : ByteArray) = s4; generalize (⟨old.toArray⟩ : ByteArray) = s3; generalize (⟨v.toArray⟩ : ByteArray) = sv
    go_enter Try.func25, Try.ntmps25
    go_wp2
    exact bodyPost_ret (results_S rfl _ _ (w.heap.size + 1) rfl rfl rfl (by exact heap2 _ _ _)) rfl ⟨rfl, below2 _ _ _⟩
  · rw [show step false v ⟨cl, sq, kind, key, val, old, call, back, rp⟩ = (false, [], ⟨0, []⟩) from by simp [step, ne_of_beq_false e1, ne_of_beq_false e2, ne_of_beq_false e3, ne_of_beq_false e4]]
    unfold stV Rp.v
    dsimp only
    try rw [str0]
    simp only [str]
    generalize (⟨key.toArray⟩ : ByteArray) = s1; generalize (⟨val.toArray⟩ : ByteArray) = s2; generalize (⟨rp.val.toArray⟩ : ByteArray) = s4; generalize (⟨old.toArray⟩ : ByteArray) = s3; generalize (⟨v.toArray⟩ : ByteArray) = sv
    go_enter Try.func25, Try.ntmps25
    go_wp2
    exact bodyPost_ret (results_S rfl _ _ (w.heap.size + 1) rfl rfl rfl (by exact heap2 _ _ _)) rfl ⟨rfl, below2 _ _ _⟩

theorem refStep_any (th : Bool) (v : Bs) (x : Lo) (w : World) : Calls Try.prog 25 #[.bool th, str v, x.v] w fun e w' => e = .returned (stV (step th v x)) ∧ Below w.heap.size w w' := by
  cases th
  · exact refStepF_any v x w
  · exact refStepT_any v x w

set_option maxRecDepth 100000 in
set_option maxHeartbeats 1000000 in
theorem steps_walk (w : World) (th : Bool) (v : Bs) (hv : v.length ≤ maxLen) (x : Lo) (hxi : InO x) : Calls Try.prog 5 #[.bool th, str v, x.v] w fun e w' => e = .returned (.bool true) ∧ Below w.heap.size w w' := by
  have HF := first_any
  have HS := step_any th v x
  have HR := refStep_any th v x
  have hx := hxi.ok
  have hxv := hx.val
  have hxo := hx.old
  have hbx : (w.alloc x.box).heap[w.heap.size]? = some x.box := heap_alloc_new w _
  have HB0 : Hid (∀ w1, Below (w.heap.size + 1) (w.alloc x.box) w1 → OpAt w1 w.heap.size 0 x ∧ Below w.heap.size w w1 ∧ w.heap.size < w1.heap.size) := fun w1 h1 => ⟨opAt_box ((h1.block _ (by omega)).trans hbx), ((Below.refl _ w).alloc (Nat.le_refl _) _).trans (h1.mono (by omega)), by have := h1.size; simp at this; omega⟩
  obtain ⟨cl, sq, kind, key, val, old, call, back, code, rv⟩ := x
  generalize step th v ⟨cl, sq, kind, key, val, old, call, back, ⟨code, rv⟩⟩ = r at *
  obtain ⟨r1, r2, r3, r4⟩ := r
  unfold maxLen at hv hxv hxo
  unfold Lo.v Lo.box Lo.cells stV Rp.v at *
  dsimp only at *
  unfold str at *
  clear hbx hx hxi
  by_cases q1 : 9000 < v.length
  · have q1' : (9000 : Int) < (v.length : Int) := by omega
    go_enter Try.func5, Try.ntmps5
    go_wp2_with (go_at_call 9; refine (HF _).mono ?_; rintro e w1 ⟨rfl, hB1⟩; obtain ⟨d, hBw, hz⟩ := HB0.out w1 (by simpa using hB1); obtain ⟨d0, d1, d2, d3, d4, d5, d6, d7, d8, d9⟩ := d; unfold str at d3 d4 d5 d9)
    go_ret
    exact ⟨rfl, hBw⟩
  have q1' : ¬ (9000 : Int) < (v.length : Int) := by omega
  by_cases q2 : 9000 < val.length
  · have q2' : (9000 : Int) < (val.length : Int) := by omega
    go_enter Try.func5, Try.ntmps5
    go_wp2_with (go_at_call 9; refine (HF _).mono ?_; rintro e w1 ⟨rfl, hB1⟩; obtain ⟨d, hBw, hz⟩ := HB0.out w1 (by simpa using hB1); obtain ⟨d0, d1, d2, d3, d4, d5, d6, d7, d8, d9⟩ := d; unfold str at d3 d4 d5 d9; dsimp only at d0 d1 d2 d3 d4 d5 d6 d7 d8 d9)
    go_ret
    exact ⟨rfl, hBw⟩
  have q2' : ¬ (9000 : Int) < (val.length : Int) := by omega
  by_cases q3 : 9000 < old.length
  · have q3' : (9000 : Int) < (old.length : Int) := by omega
    go_enter Try.func5, Try.ntmps5
    go_wp2_with (go_at_call 9; refine (HF _).mono ?_; rintro e w1 ⟨rfl, hB1⟩; obtain ⟨d, hBw, hz⟩ := HB0.out w1 (by simpa using hB1); obtain ⟨d0, d1, d2, d3, d4, d5, d6, d7, d8, d9⟩ := d; unfold str at d3 d4 d5 d9; dsimp only at d0 d1 d2 d3 d4 d5 d6 d7 d8 d9)
    go_ret
    exact ⟨rfl, hBw⟩
  have q3' : ¬ (9000 : Int) < (old.length : Int) := by omega
  clear q1 q2 q3
  go_enter Try.func5, Try.ntmps5
  go_wp2_with (first
    | (go_at_call 9; refine (HF _).mono ?_; rintro e w1 ⟨rfl, hB1⟩; obtain ⟨d, hBw, hz⟩ := HB0.out w1 (by simpa using hB1); obtain ⟨d0, d1, d2, d3, d4, d5, d6, d7, d8, d9⟩ := d; unfold str at d3 d4 d5 d9; dsimp only at d0 d1 d2 d3 d4 d5 d6 d7 d8 d9; have hw1 := hB1; clear hB1)
    | (go_at_call 24; refine (HS _).mono ?_; rintro e w2 ⟨rfl, hB2⟩; clear d0 d1 d2 d3 d4 d5 d6 d7 d8 d9; (obtain ⟨d, hBw2, hz2⟩ := HB0.out w2 ((show Below (w.heap.size + 1) _ w1 from by simpa using hw1).trans (hB2.mono (by omega)))); obtain ⟨d0, d1, d2, d3, d4, d5, d6, d7, d8, d9⟩ := d; unfold str at d3 d4 d5 d9; dsimp only at d0 d1 d2 d3 d4 d5 d6 d7 d8 d9; have qa := past1 hz2; clear hB2 hw1)
    | (go_at_call 25; refine (HR _).mono ?_; rintro e w3 ⟨rfl, hB3⟩; obtain ⟨g0, g1⟩ := cells2 ((hB3.block w2.heap.size (by simp)).trans (heap_alloc_new w2 _)); have hz3 : w2.heap.size < w3.heap.size := (by have := hB3.size; simp at this; omega); have qb := past1 hz3; (have HB4 : Hid (Below w.heap.size w w3) := hBw2.trans ((((Below.refl _ w2).alloc (Nat.le_refl _) _).trans (hB3.mono (by simp))).mono (by omega))); clear hB3))
  go_ret
  exact ⟨rfl, HB4.out.alloc (by omega) _⟩
end Go.Proofs.Ytbcnpdpdflkanaa
