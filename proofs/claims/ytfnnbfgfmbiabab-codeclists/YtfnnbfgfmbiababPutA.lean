/-
  Put of the plain kinds, the code's and the document's.
-/
import Derived.Test.YtfnnbfgfmbiababHold
import Derived.Test.YtfnnbfgfmbiababPlain
namespace Go.Proofs.Ytfnnbfgfmbiabab
open Go.RowKit Go.Shelf

set_option maxRecDepth 100000 in
set_option maxHeartbeats 2000000 in
theorem putState_any (t v c : Int) (w : World) : Calls Try.prog 30 #[.agg #[], .agg #[.int .i64 t, .int .i64 v, .int .i64 c]] w fun r w' =>
    ∃ u, r = .returned (.tuple #[u, .int .i64 (ckState t v c : Int)]) ∧ Ow w.heap.size w' u (if ckState t v c = 0 then txState t v c else []) ∧ Below w.heap.size w w' := by
  have hbt := numB_len t.toNat
  have hbv := numB_len v.toNat
  have hbc := numB_len c.toNat
  obtain ⟨W0, hW0⟩ : ∃ W0, ((w.alloc (.cells #[] 56)).alloc (.cells #[.int .i64 t, .int .i64 v, .int .i64 c] 43)) = W0 := ⟨_, rfl⟩
  have HW0 : Hid (((w.alloc (.cells #[] 56)).alloc (.cells #[.int .i64 t, .int .i64 v, .int .i64 c] 43)) = W0) := hW0
  have HB0 : Hid (Below w.heap.size w W0) := by show Below w.heap.size w W0; rw [← hW0]; exact (((Below.refl _ w).alloc (by simp) _).alloc (by simp) _)
  have HQ : Hid (∀ w', Below W0.heap.size W0 w' → w'.cell? ⟨w.heap.size + 1, 0, none⟩ = some (.int .i64 t) ∧ w'.cell? ⟨w.heap.size + 1, 1, none⟩ = some (.int .i64 v) ∧ w'.cell? ⟨w.heap.size + 1, 2, none⟩ = some (.int .i64 c)) := fun w' hB => by
    have hlt : w.heap.size + 1 < W0.heap.size := by rw [← hW0]; simp
    have hh : W0.heap[w.heap.size + 1]? = some (.cells #[.int .i64 t, .int .i64 v, .int .i64 c] 43 (0, 0)) := by
      rw [← hW0]; exact (by simpa using World.alloc_heap_new (w.alloc (.cells #[] 56)) _)
    have h2 := (hB.block _ hlt).trans hh
    refine ⟨?_, ?_, ?_⟩ <;> (simp only [World.cell?, h2]; rfl)
  clear hW0
  by_cases hk : ckState t v c = 0
  · rw [if_pos hk]
    obtain ⟨kt, kv, kc⟩ := ckState_nums hk
    go_enter Try.func30, Try.ntmps30
    go_wp2_with (go_at_call 31; refine (ckState_any t v c _).mono ?_; rintro e w1 ⟨rfl, hB1⟩; rw [HW0.out] at hB1; obtain ⟨q0, q1, q2⟩ := HQ.out w1 hB1)
    go_wp2_with fail
    refine (newW_any w1).mono ?_
    rintro r w2 ⟨rfl, h2⟩
    obtain ⟨q0, q1, q2⟩ := HQ.out w2 (hB1.trans (h2.bel.mono hB1.size))
    go_wp2_with fail
    refine (wrInt_any t h2 (by simp <;> omega) kt).mono ?_
    rintro r w3 ⟨rfl, h3⟩
    obtain ⟨q0, q1, q2⟩ := HQ.out w3 (hB1.trans (h3.bel.mono hB1.size))
    go_wp2_with fail
    refine (wrInt_any v h3 (by simp <;> omega) kv).mono ?_
    rintro r w4 ⟨rfl, h4⟩
    obtain ⟨q0, q1, q2⟩ := HQ.out w4 (hB1.trans (h4.bel.mono hB1.size))
    go_wp2_with fail
    refine (wrInt_any c h4 (by simp <;> omega) kc).mono ?_
    rintro r w5 ⟨rfl, h5⟩
    obtain ⟨q0, q1, q2⟩ := HQ.out w5 (hB1.trans (h5.bel.mono hB1.size))
    go_wp2_with fail
    refine (wrDone_any h5 (by simp <;> omega)).mono ?_
    rintro r w9 ⟨u, rfl, hO9, hB9⟩
    go_wp2
    go_ret2
    refine ⟨u, by rw [hk]; rfl, ?_, HB0.out.trans ((hB1.trans (hB9.mono hB1.size)).mono HB0.out.size)⟩
    have hO := hO9.base (N' := w.heap.size) (by have := hB1.size; have := HB0.out.size; omega)
    simpa [txState, numB] using hO
  · rw [if_neg hk]
    have ck1 := fun w' => ckState_any t v c w'
    generalize ckState t v c = ke at *
    have hke : ((ke : Int) != 0) = true := by simp; omega
    go_enter Try.func30, Try.ntmps30
    go_wp2_with (go_at_call 31; refine (ck1 _).mono ?_; rintro e w1 ⟨rfl, hB1⟩; rw [HW0.out] at hB1)
    go_ret2
    exact ⟨_, rfl, Ow.nil _ _, HB0.out.trans (hB1.mono HB0.out.size)⟩

end Go.Proofs.Ytfnnbfgfmbiabab
