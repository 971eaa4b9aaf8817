/-
  Put of the plain kinds, the code's and the document's.
-/
import Derived.Test.YtfnnbfgfmbiababHold
import Derived.Test.YtfnnbfgfmbiababPlain
namespace Go.Proofs.Ytfnnbfgfmbiabab
open Go.RowKit Go.Shelf

set_option maxRecDepth 100000 in
set_option maxHeartbeats 2000000 in
theorem putSnap_any (i t : Int) (m : List UInt8) (a : Option Addr) (cap : Nat) (w : World) (M : Nat) (hx : Sl M w (.slice a m.length cap) m) (hM : M ≤ w.heap.size) : Calls Try.prog 140 #[.agg #[], .agg #[.int .i64 i, .int .i64 t, .slice a m.length cap]] w fun r w' =>
    ∃ u, r = .returned (.tuple #[u, .int .i64 (ckSnap i t m.length : Int)]) ∧ Ow w.heap.size w' u (if ckSnap i t m.length = 0 then txSnap i t m else []) ∧ Below w.heap.size w w' := by
  have hbi := numB_len i.toNat
  have hbt := numB_len t.toNat
  have hbm := numB_len m.length
  obtain ⟨W0, hW0⟩ : ∃ W0, ((w.alloc (.cells #[] 145)).alloc (.cells #[.int .i64 i, .int .i64 t, .slice a m.length cap] 47)) = W0 := ⟨_, rfl⟩
  have HW0 : Hid (((w.alloc (.cells #[] 145)).alloc (.cells #[.int .i64 i, .int .i64 t, .slice a m.length cap] 47)) = W0) := hW0
  have HB0 : Hid (Below w.heap.size w W0) := by show Below w.heap.size w W0; rw [← hW0]; exact (((Below.refl _ w).alloc (by simp) _).alloc (by simp) _)
  have HQ : Hid (∀ w', Below W0.heap.size W0 w' → w'.cell? ⟨w.heap.size + 1, 0, none⟩ = some (.int .i64 i) ∧ w'.cell? ⟨w.heap.size + 1, 1, none⟩ = some (.int .i64 t) ∧ w'.cell? ⟨w.heap.size + 1, 2, none⟩ = some (.slice a m.length cap)) := fun w' hB => by
    have hlt : w.heap.size + 1 < W0.heap.size := by rw [← hW0]; simp
    have hh : W0.heap[w.heap.size + 1]? = some (.cells #[.int .i64 i, .int .i64 t, .slice a m.length cap] 47 (0, 0)) := by
      rw [← hW0]; exact (by simpa using World.alloc_heap_new (w.alloc (.cells #[] 145)) _)
    have h2 := (hB.block _ hlt).trans hh
    refine ⟨?_, ?_, ?_⟩ <;> (simp only [World.cell?, h2]; rfl)
  clear hW0
  by_cases hk : ckSnap i t m.length = 0
  · rw [if_pos hk]
    obtain ⟨ki, kt, km⟩ := ckSnap_ok hk
    have hm30 : m.length ≤ 1073741824 := by omega
    have hx0 := hx.below (HB0.out.mono hM)
    have hM0 : M ≤ W0.heap.size := by have := HB0.out.size; omega
    go_enter Try.func140, Try.ntmps140
    go_wp2_with (go_at_call 93; refine (ckSnap_any i t a m.length cap _).mono ?_; rintro e w1 ⟨rfl, hB1⟩; rw [HW0.out] at hB1; obtain ⟨q0, q1, q2⟩ := HQ.out w1 hB1)
    have hx1 := hx0.below (hB1.mono hM0)
    have hM1 : M ≤ w1.heap.size := by have := hB1.size; omega
    clear hx hx0
    go_wp2_with fail
    refine (newW_any w1).mono ?_
    rintro r w2 ⟨rfl, h2⟩
    obtain ⟨q0, q1, q2⟩ := HQ.out w2 (hB1.trans (h2.bel.mono hB1.size))
    go_wp2_with fail
    refine (wrInt_any i h2 (by simp <;> omega) ki).mono ?_
    rintro r w3 ⟨rfl, h3⟩
    obtain ⟨q0, q1, q2⟩ := HQ.out w3 (hB1.trans (h3.bel.mono hB1.size))
    go_wp2_with fail
    refine (wrInt_any t h3 (by simp <;> omega) kt).mono ?_
    rintro r w4 ⟨rfl, h4⟩
    obtain ⟨q0, q1, q2⟩ := HQ.out w4 (hB1.trans (h4.bel.mono hB1.size))
    go_wp2_with fail
    refine (wrBytes_any 524288 h4 (by simp <;> omega) (by omega) hx1 hM1 km).mono ?_
    rintro r w5 ⟨rfl, h5⟩
    obtain ⟨q0, q1, q2⟩ := HQ.out w5 (hB1.trans (h5.bel.mono hB1.size))
    go_wp2_with fail
    refine (wrDone_any h5 (by simp <;> omega)).mono ?_
    rintro r w9 ⟨u, rfl, hO9, hB9⟩
    go_wp2
    go_ret2
    refine ⟨u, by rw [hk]; rfl, ?_, HB0.out.trans ((hB1.trans (hB9.mono hB1.size)).mono HB0.out.size)⟩
    have hO := hO9.base (N' := w.heap.size) (by have := hB1.size; have := HB0.out.size; omega)
    simpa [txSnap, numB] using hO
  · rw [if_neg hk]
    have ck1 := fun w' => ckSnap_any i t a m.length cap w'
    generalize ckSnap i t m.length = ke at *
    have hke : ((ke : Int) != 0) = true := by simp; omega
    go_enter Try.func140, Try.ntmps140
    go_wp2_with (go_at_call 93; refine (ck1 _).mono ?_; rintro e w1 ⟨rfl, hB1⟩; rw [HW0.out] at hB1)
    go_ret2
    exact ⟨_, rfl, Ow.nil _ _, HB0.out.trans (hB1.mono HB0.out.size)⟩

set_option maxRecDepth 100000 in
set_option maxHeartbeats 2000000 in
theorem putEntry_any (t i k : Int) (m : List UInt8) (a : Option Addr) (cap : Nat) (w : World) (M : Nat) (hx : Sl M w (.slice a m.length cap) m) (hM : M ≤ w.heap.size) : Calls Try.prog 29 #[.agg #[], .agg #[.int .i64 t, .int .i64 i, .int .i64 k, .slice a m.length cap]] w fun r w' =>
    ∃ u, r = .returned (.tuple #[u, .int .i64 (ckEntry t i k m.length : Int)]) ∧ Ow w.heap.size w' u (if ckEntry t i k m.length = 0 then txEntry t i k m else []) ∧ Below w.heap.size w w' := by
  have hbt := numB_len t.toNat
  have hbi := numB_len i.toNat
  have hbk := numB_len k.toNat
  have hbm := numB_len m.length
  obtain ⟨W0, hW0⟩ : ∃ W0, ((w.alloc (.cells #[] 31)).alloc (.cells #[.int .i64 t, .int .i64 i, .int .i64 k, .slice a m.length cap] 26)) = W0 := ⟨_, rfl⟩
  have HW0 : Hid (((w.alloc (.cells #[] 31)).alloc (.cells #[.int .i64 t, .int .i64 i, .int .i64 k, .slice a m.length cap] 26)) = W0) := hW0
  have HB0 : Hid (Below w.heap.size w W0) := by show Below w.heap.size w W0; rw [← hW0]; exact (((Below.refl _ w).alloc (by simp) _).alloc (by simp) _)
  have HQ : Hid (∀ w', Below W0.heap.size W0 w' → w'.cell? ⟨w.heap.size + 1, 0, none⟩ = some (.int .i64 t) ∧ w'.cell? ⟨w.heap.size + 1, 1, none⟩ = some (.int .i64 i) ∧ w'.cell? ⟨w.heap.size + 1, 2, none⟩ = some (.int .i64 k) ∧ w'.cell? ⟨w.heap.size + 1, 3, none⟩ = some (.slice a m.length cap)) := fun w' hB => by
    have hlt : w.heap.size + 1 < W0.heap.size := by rw [← hW0]; simp
    have hh : W0.heap[w.heap.size + 1]? = some (.cells #[.int .i64 t, .int .i64 i, .int .i64 k, .slice a m.length cap] 26 (0, 0)) := by
      rw [← hW0]; exact (by simpa using World.alloc_heap_new (w.alloc (.cells #[] 31)) _)
    have h2 := (hB.block _ hlt).trans hh
    refine ⟨?_, ?_, ?_, ?_⟩ <;> (simp only [World.cell?, h2]; rfl)
  clear hW0
  by_cases hk : ckEntry t i k m.length = 0
  · rw [if_pos hk]
    obtain ⟨kt, ki, kk, km⟩ := ckEntry_ok hk
    have hm30 : m.length ≤ 1073741824 := by omega
    have hx0 := hx.below (HB0.out.mono hM)
    have hM0 : M ≤ W0.heap.size := by have := HB0.out.size; omega
    go_enter Try.func29, Try.ntmps29
    go_wp2_with (go_at_call 73; refine (ckEntry_any t i k a m.length cap _).mono ?_; rintro e w1 ⟨rfl, hB1⟩; rw [HW0.out] at hB1; obtain ⟨q0, q1, q2, q3⟩ := HQ.out w1 hB1)
    have hx1 := hx0.below (hB1.mono hM0)
    have hM1 : M ≤ w1.heap.size := by have := hB1.size; omega
    clear hx hx0
    go_wp2_with fail
    refine (newW_any w1).mono ?_
    rintro r w2 ⟨rfl, h2⟩
    obtain ⟨q0, q1, q2, q3⟩ := HQ.out w2 (hB1.trans (h2.bel.mono hB1.size))
    go_wp2_with fail
    refine (wrInt_any t h2 (by simp <;> omega) kt).mono ?_
    rintro r w3 ⟨rfl, h3⟩
    obtain ⟨q0, q1, q2, q3⟩ := HQ.out w3 (hB1.trans (h3.bel.mono hB1.size))
    go_wp2_with fail
    refine (wrInt_any i h3 (by simp <;> omega) ki).mono ?_
    rintro r w4 ⟨rfl, h4⟩
    obtain ⟨q0, q1, q2, q3⟩ := HQ.out w4 (hB1.trans (h4.bel.mono hB1.size))
    go_wp2_with fail
    refine (wrInt_any k h4 (by simp <;> omega) kk).mono ?_
    rintro r w5 ⟨rfl, h5⟩
    obtain ⟨q0, q1, q2, q3⟩ := HQ.out w5 (hB1.trans (h5.bel.mono hB1.size))
    go_wp2_with fail
    refine (wrBytes_any 4096 h5 (by simp <;> omega) (by omega) hx1 hM1 km).mono ?_
    rintro r w6 ⟨rfl, h6⟩
    obtain ⟨q0, q1, q2, q3⟩ := HQ.out w6 (hB1.trans (h6.bel.mono hB1.size))
    go_wp2_with fail
    refine (wrDone_any h6 (by simp <;> omega)).mono ?_
    rintro r w9 ⟨u, rfl, hO9, hB9⟩
    go_wp2
    go_ret2
    refine ⟨u, by rw [hk]; rfl, ?_, HB0.out.trans ((hB1.trans (hB9.mono hB1.size)).mono HB0.out.size)⟩
    have hO := hO9.base (N' := w.heap.size) (by have := hB1.size; have := HB0.out.size; omega)
    simpa [txEntry, numB] using hO
  · rw [if_neg hk]
    have ck1 := fun w' => ckEntry_any t i k a m.length cap w'
    generalize ckEntry t i k m.length = ke at *
    have hke : ((ke : Int) != 0) = true := by simp; omega
    go_enter Try.func29, Try.ntmps29
    go_wp2_with (go_at_call 73; refine (ck1 _).mono ?_; rintro e w1 ⟨rfl, hB1⟩; rw [HW0.out] at hB1)
    go_ret2
    exact ⟨_, rfl, Ow.nil _ _, HB0.out.trans (hB1.mono HB0.out.size)⟩

set_option maxRecDepth 100000 in
set_option maxHeartbeats 2000000 in
theorem refPutEntry_any (t i k : Int) (m : List UInt8) (a : Option Addr) (cap : Nat) (w : World) (M : Nat) (hx : Sl M w (.slice a m.length cap) m) (hM : M ≤ w.heap.size) : Calls Try.prog 35 #[.agg #[.int .i64 t, .int .i64 i, .int .i64 k, .slice a m.length cap]] w fun r w' =>
    ∃ u, r = .returned (.tuple #[u, .int .i64 (ckEntry t i k m.length : Int)]) ∧ Sl w'.heap.size w' u (if ckEntry t i k m.length = 0 then txEntry t i k m else []) ∧ Below w.heap.size w w' := by
  have hbt := numB_len t.toNat
  have hbi := numB_len i.toNat
  have hbk := numB_len k.toNat
  have hbm := numB_len m.length
  obtain ⟨W0, hW0⟩ : ∃ W0, (w.alloc (.cells #[.int .i64 t, .int .i64 i, .int .i64 k, .slice a m.length cap] 26)) = W0 := ⟨_, rfl⟩
  have HW0 : Hid ((w.alloc (.cells #[.int .i64 t, .int .i64 i, .int .i64 k, .slice a m.length cap] 26)) = W0) := hW0
  have HB0 : Hid (Below w.heap.size w W0) := by show Below w.heap.size w W0; rw [← hW0]; exact ((Below.refl _ w).alloc (by simp) _)
  have HQ : Hid (∀ w', Below W0.heap.size W0 w' → w'.cell? ⟨w.heap.size, 0, none⟩ = some (.int .i64 t) ∧ w'.cell? ⟨w.heap.size, 1, none⟩ = some (.int .i64 i) ∧ w'.cell? ⟨w.heap.size, 2, none⟩ = some (.int .i64 k) ∧ w'.cell? ⟨w.heap.size, 3, none⟩ = some (.slice a m.length cap)) := fun w' hB => by
    have hlt : w.heap.size < W0.heap.size := by rw [← hW0]; simp
    have hh : W0.heap[w.heap.size]? = some (.cells #[.int .i64 t, .int .i64 i, .int .i64 k, .slice a m.length cap] 26 (0, 0)) := by
      rw [← hW0]; exact World.alloc_heap_new w _
    have h2 := (hB.block _ hlt).trans hh
    refine ⟨?_, ?_, ?_, ?_⟩ <;> (simp only [World.cell?, h2]; rfl)
  clear hW0
  by_cases hk : ckEntry t i k m.length = 0
  · rw [if_pos hk]
    obtain ⟨kt, ki, kk, km⟩ := ckEntry_ok hk
    have hm30 : m.length ≤ 1073741824 := by omega
    have hx0 := hx.below (HB0.out.mono hM)
    have hM0 : M ≤ W0.heap.size := by have := HB0.out.size; omega
    go_enter Try.func35, Try.ntmps35
    go_wp2_with (go_at_call 78; refine (refCkEntry_any t i k a m.length cap _).mono ?_; rintro e w1 ⟨rfl, hB1⟩; rw [HW0.out] at hB1; obtain ⟨q0, q1, q2, q3⟩ := HQ.out w1 hB1; have h2 := newV (w := w1); obtain ⟨q0, q1, q2, q3⟩ := HQ.out _ (hB1.trans (h2.bel.mono hB1.size)))
    have hx1 := hx0.below (hB1.mono hM0)
    have hM1 : M ≤ w1.heap.size := by have := hB1.size; omega
    clear hx hx0
    go_wp2_with fail
    refine (wvInt_any t h2 (by simp <;> omega) kt).mono ?_
    rintro r w3 ⟨rfl, h3⟩
    obtain ⟨q0, q1, q2, q3⟩ := HQ.out w3 (hB1.trans (h3.bel.mono hB1.size))
    go_wp2_with fail
    refine (wvInt_any i h3 (by simp <;> omega) ki).mono ?_
    rintro r w4 ⟨rfl, h4⟩
    obtain ⟨q0, q1, q2, q3⟩ := HQ.out w4 (hB1.trans (h4.bel.mono hB1.size))
    go_wp2_with fail
    refine (wvInt_any k h4 (by simp <;> omega) kk).mono ?_
    rintro r w5 ⟨rfl, h5⟩
    obtain ⟨q0, q1, q2, q3⟩ := HQ.out w5 (hB1.trans (h5.bel.mono hB1.size))
    go_wp2_with fail
    refine (wvBytes_any 4096 h5 (by simp <;> omega) (by omega) hx1 hM1 km).mono ?_
    rintro r w6 ⟨rfl, h6⟩
    obtain ⟨q0, q1, q2, q3⟩ := HQ.out w6 (hB1.trans (h6.bel.mono hB1.size))
    go_wp2_with fail
    refine (wvDone_any h6).mono ?_
    rintro r w9 ⟨u, rfl, hO9, hB9⟩
    go_wp2
    go_ret2
    refine ⟨u, by rw [hk]; rfl, ?_, HB0.out.trans ((hB1.trans (hB9.mono hB1.size)).mono HB0.out.size)⟩
    simpa [txEntry, numB] using hO9
  · rw [if_neg hk]
    have ck1 := fun w' => refCkEntry_any t i k a m.length cap w'
    generalize ckEntry t i k m.length = ke at *
    have hke : ((ke : Int) != 0) = true := by simp; omega
    go_enter Try.func35, Try.ntmps35
    go_wp2_with (go_at_call 78; refine (ck1 _).mono ?_; rintro e w1 ⟨rfl, hB1⟩; rw [HW0.out] at hB1)
    go_ret2
    exact ⟨_, rfl, Sl.nil _ _, HB0.out.trans (hB1.mono HB0.out.size)⟩

end Go.Proofs.Ytfnnbfgfmbiabab
