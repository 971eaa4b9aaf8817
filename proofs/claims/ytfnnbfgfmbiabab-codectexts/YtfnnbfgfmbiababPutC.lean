/-
  Put of the plain kinds, the code's and the document's.
-/
import Derived.Test.YtfnnbfgfmbiababHold
import Derived.Test.YtfnnbfgfmbiababPlain
import Derived.Test.YtfnnbfgfmbiababChkD
namespace Go.Proofs.Ytfnnbfgfmbiabab
open Go.RowKit Go.Shelf

set_option maxRecDepth 100000 in
set_option maxHeartbeats 2000000 in
theorem putCommand_any (o c s : Int) (k v d : List UInt8) (w : World) : Calls Try.prog 133 #[.agg #[], .agg #[.int .i64 o, .int .i64 c, .int .i64 s, .string ⟨k.toArray⟩, .string ⟨v.toArray⟩, .string ⟨d.toArray⟩]] w fun r w' =>
    ∃ u, r = .returned (.tuple #[u, .int .i64 (ckCommand o c s k v d : Int)]) ∧ Ow w.heap.size w' u (if ckCommand o c s k v d = 0 then txCommand o c s k v d else []) ∧ Below w.heap.size w w' := by
  have hbo := numB_len o.toNat
  have hbc := numB_len c.toNat
  have hbs := numB_len s.toNat
  have hbk := numB_len k.length
  have hbv := numB_len v.length
  have hbd := numB_len d.length
  obtain ⟨W0, hW0⟩ : ∃ W0, ((w.alloc (.cells #[] 58)).alloc (.cells #[.int .i64 o, .int .i64 c, .int .i64 s, .string ⟨k.toArray⟩, .string ⟨v.toArray⟩, .string ⟨d.toArray⟩] 45)) = W0 := ⟨_, rfl⟩
  have HW0 : Hid (((w.alloc (.cells #[] 58)).alloc (.cells #[.int .i64 o, .int .i64 c, .int .i64 s, .string ⟨k.toArray⟩, .string ⟨v.toArray⟩, .string ⟨d.toArray⟩] 45)) = W0) := hW0
  have HB0 : Hid (Below w.heap.size w W0) := by show Below w.heap.size w W0; rw [← hW0]; exact (((Below.refl _ w).alloc (by simp) _).alloc (by simp) _)
  have HQ : Hid (∀ w', Below W0.heap.size W0 w' → w'.cell? ⟨w.heap.size + 1, 0, none⟩ = some (.int .i64 o) ∧ w'.cell? ⟨w.heap.size + 1, 1, none⟩ = some (.int .i64 c) ∧ w'.cell? ⟨w.heap.size + 1, 2, none⟩ = some (.int .i64 s) ∧ w'.cell? ⟨w.heap.size + 1, 3, none⟩ = some (.string ⟨k.toArray⟩) ∧ w'.cell? ⟨w.heap.size + 1, 4, none⟩ = some (.string ⟨v.toArray⟩) ∧ w'.cell? ⟨w.heap.size + 1, 5, none⟩ = some (.string ⟨d.toArray⟩)) := fun w' hB => by
    have hlt : w.heap.size + 1 < W0.heap.size := by rw [← hW0]; simp
    have hh : W0.heap[w.heap.size + 1]? = some (.cells #[.int .i64 o, .int .i64 c, .int .i64 s, .string ⟨k.toArray⟩, .string ⟨v.toArray⟩, .string ⟨d.toArray⟩] 45 (0, 0)) := by
      rw [← hW0]; exact (by simpa using World.alloc_heap_new (w.alloc (.cells #[] 58)) _)
    have h2 := (hB.block _ hlt).trans hh
    refine ⟨?_, ?_, ?_, ?_, ?_, ?_⟩ <;> (simp only [World.cell?, h2]; rfl)
  clear hW0
  by_cases hk : ckCommand o c s k v d = 0
  · rw [if_pos hk]
    obtain ⟨ko, kc, ks, kk, kv, kd⟩ := ckCommand_ok hk
    go_enter Try.func133, Try.ntmps133
    go_wp2_with (go_at_call 131; refine (ckCommand_any o c s k v d _).mono ?_; rintro e w1 ⟨rfl, hB1⟩; rw [HW0.out] at hB1; obtain ⟨q0, q1, q2, q3, q4, q5⟩ := HQ.out w1 hB1)
    go_wp2_with fail
    refine (newW_any w1).mono ?_
    rintro r w2 ⟨rfl, h2⟩
    obtain ⟨q0, q1, q2, q3, q4, q5⟩ := HQ.out w2 (hB1.trans (h2.bel.mono hB1.size))
    go_wp2_with fail
    refine (wrInt_any o h2 (by simp <;> omega) ko).mono ?_
    rintro r w3 ⟨rfl, h3⟩
    obtain ⟨q0, q1, q2, q3, q4, q5⟩ := HQ.out w3 (hB1.trans (h3.bel.mono hB1.size))
    go_wp2_with fail
    refine (wrInt_any c h3 (by simp <;> omega) kc).mono ?_
    rintro r w4 ⟨rfl, h4⟩
    obtain ⟨q0, q1, q2, q3, q4, q5⟩ := HQ.out w4 (hB1.trans (h4.bel.mono hB1.size))
    go_wp2_with fail
    refine (wrInt_any s h4 (by simp <;> omega) ks).mono ?_
    rintro r w5 ⟨rfl, h5⟩
    obtain ⟨q0, q1, q2, q3, q4, q5⟩ := HQ.out w5 (hB1.trans (h5.bel.mono hB1.size))
    go_wp2_with fail
    refine (wrText_any 64 h5 (by simp <;> omega) (by omega) kk).mono ?_
    rintro r w6 ⟨rfl, h6⟩
    obtain ⟨q0, q1, q2, q3, q4, q5⟩ := HQ.out w6 (hB1.trans (h6.bel.mono hB1.size))
    go_wp2_with fail
    refine (wrText_any 1024 h6 (by simp <;> omega) (by omega) kv).mono ?_
    rintro r w7 ⟨rfl, h7⟩
    obtain ⟨q0, q1, q2, q3, q4, q5⟩ := HQ.out w7 (hB1.trans (h7.bel.mono hB1.size))
    go_wp2_with fail
    refine (wrText_any 1024 h7 (by simp <;> omega) (by omega) kd).mono ?_
    rintro r w8 ⟨rfl, h8⟩
    obtain ⟨q0, q1, q2, q3, q4, q5⟩ := HQ.out w8 (hB1.trans (h8.bel.mono hB1.size))
    go_wp2_with fail
    refine (wrDone_any h8 (by simp <;> omega)).mono ?_
    rintro r w9 ⟨u, rfl, hO9, hB9⟩
    go_wp2
    go_ret2
    refine ⟨u, by rw [hk]; rfl, ?_, HB0.out.trans ((hB1.trans (hB9.mono hB1.size)).mono HB0.out.size)⟩
    have hO := hO9.base (N' := w.heap.size) (by have := hB1.size; have := HB0.out.size; omega)
    simpa [txCommand, numB] using hO
  · rw [if_neg hk]
    have ck1 := fun w' => ckCommand_any o c s k v d w'
    generalize ckCommand o c s k v d = ke at *
    have hke : ((ke : Int) != 0) = true := by simp; omega
    go_enter Try.func133, Try.ntmps133
    go_wp2_with (go_at_call 131; refine (ck1 _).mono ?_; rintro e w1 ⟨rfl, hB1⟩; rw [HW0.out] at hB1)
    go_ret2
    exact ⟨_, rfl, Ow.nil _ _, HB0.out.trans (hB1.mono HB0.out.size)⟩

end Go.Proofs.Ytfnnbfgfmbiabab
