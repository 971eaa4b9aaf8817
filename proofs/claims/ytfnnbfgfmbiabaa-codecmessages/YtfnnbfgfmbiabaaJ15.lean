/-
  MsgB; PutB; PutO; PutE.
-/
import Derived.Test.YtfnnbfgfmbiabaaJ13
import Derived.Test.YtfnnbfgfmbiabaaJ08
/-
  A bool's number, kept shut.
-/
namespace Go.Proofs.Ytfnnbfgfmbiabaa
open Go.RowKit Go.Shelf

/-- A bool as a number. -/
def bN (t : Bool) : Nat := if t then 1 else 0
theorem bN_le (t : Bool) : bN t ≤ 1 := by cases t <;> decide

theorem wsBoolN_any (t : Bool) {w0 w : World} {S : Nat → Prop} {l : List UInt8} (h : Ws w0 w S l) (hl : l.length ≤ 1073741824) :
    Calls Try.prog 111 #[.pointer (some ⟨w0.heap.size, 0, none⟩), .bool t] w fun r w' => r = .returned (.tuple #[]) ∧ Ws w0 w' S (l ++ numB (bN t)) ∧ ∀ k, S k → w'.heap[k]? = w.heap[k]? := wsBool_any t h hl
theorem wvBoolN_any (t : Bool) {w0 w : World} {l : List UInt8} (h : Wv w0 w l) (hl : l.length ≤ 1073741824) :
    Calls Try.prog 82 #[.pointer (some ⟨w0.heap.size, 0, none⟩), .bool t] w fun r w' => r = .returned (.tuple #[]) ∧ Wv w0 w' (l ++ numB (bN t)) := wvBool_any t h hl
end Go.Proofs.Ytfnnbfgfmbiabaa

/-
  Put of the plain kinds, the code's and the document's.
-/
namespace Go.Proofs.Ytfnnbfgfmbiabaa
open Go.RowKit Go.Shelf

set_option maxRecDepth 100000 in
set_option maxHeartbeats 2000000 in
theorem putSnap_any (i t : Int) (m : List UInt8) (a : Option Addr) (cap : Nat) (w : World) (M : Nat) (hx : Sl M w (.slice a m.length cap) m) (hM : M ≤ w.heap.size) : Calls Try.prog 27 #[.agg #[], .agg #[.int .i64 i, .int .i64 t, .slice a m.length cap]] w fun r w' =>
    ∃ u, r = .returned (.tuple #[u, .int .i64 (ckSnap i t m.length : Int)]) ∧ Ow w.heap.size w' u (if ckSnap i t m.length = 0 then txSnap i t m else []) ∧ Below w.heap.size w w' := by
  have hbi := numB_len i.toNat
  have hbt := numB_len t.toNat
  have hbm := numB_len m.length
  obtain ⟨W0, hW0⟩ : ∃ W0, ((w.alloc (.cells #[] 58)).alloc (.cells #[.int .i64 i, .int .i64 t, .slice a m.length cap] 57)) = W0 := ⟨_, rfl⟩
  have HW0 : Hid (((w.alloc (.cells #[] 58)).alloc (.cells #[.int .i64 i, .int .i64 t, .slice a m.length cap] 57)) = W0) := hW0
  have HB0 : Hid (Below w.heap.size w W0) := by show Below w.heap.size w W0; rw [← hW0]; exact (((Below.refl _ w).alloc (by simp) _).alloc (by simp) _)
  have HQ : Hid (∀ w', Below W0.heap.size W0 w' → w'.cell? ⟨w.heap.size + 1, 0, none⟩ = some (.int .i64 i) ∧ w'.cell? ⟨w.heap.size + 1, 1, none⟩ = some (.int .i64 t) ∧ w'.cell? ⟨w.heap.size + 1, 2, none⟩ = some (.slice a m.length cap)) := fun w' hB => by
    have hlt : w.heap.size + 1 < W0.heap.size := by rw [← hW0]; simp
    have hh : W0.heap[w.heap.size + 1]? = some (.cells #[.int .i64 i, .int .i64 t, .slice a m.length cap] 57 (0, 0)) := by
      rw [← hW0]; exact (by simpa using World.alloc_heap_new (w.alloc (.cells #[] 58)) _)
    have h2 := (hB.block _ hlt).trans hh
    refine ⟨?_, ?_, ?_⟩ <;> (simp only [World.cell?, h2]; rfl)
  clear hW0
  by_cases hk : ckSnap i t m.length = 0
  · rw [if_pos hk]
    obtain ⟨ki, kt, km⟩ := ckSnap_ok hk
    have hm30 : m.length ≤ 1073741824 := by omega
    have hx0 := hx.below (HB0.out.mono hM)
    have hM0 : M ≤ W0.heap.size := by have := HB0.out.size; omega
    go_enter Try.func27, Try.ntmps27
    go_wp2_with (go_at_call 29; refine (ckSnap_any i t a m.length cap _).mono ?_; rintro e w1 ⟨rfl, hB1⟩; rw [HW0.out] at hB1; obtain ⟨q0, q1, q2⟩ := HQ.out w1 hB1)
    have hx1 := hx0.below (hB1.mono hM0)
    have hM1 : M ≤ w1.heap.size := by have := hB1.size; omega
    clear hx hx0
    go_wp2_with fail
    refine (newW_any w1).mono ?_
    rintro r w2 ⟨rfl, h2⟩
    obtain ⟨q0, q1, q2⟩ := HQ.out w2 (hB1.trans (h2.bel.mono hB1.size))
    go_wp2_with fail
    refine (wrInt_any i h2 (by simp <;> omega) ki).mono ?_
    rintro r w3 ⟨rfl, h3⟩
    obtain ⟨q0, q1, q2⟩ := HQ.out w3 (hB1.trans (h3.bel.mono hB1.size))
    go_wp2_with fail
    refine (wrInt_any t h3 (by simp <;> omega) kt).mono ?_
    rintro r w4 ⟨rfl, h4⟩
    obtain ⟨q0, q1, q2⟩ := HQ.out w4 (hB1.trans (h4.bel.mono hB1.size))
    go_wp2_with fail
    refine (wrBytes_any 524288 h4 (by simp <;> omega) (by omega) hx1 hM1 km).mono ?_
    rintro r w5 ⟨rfl, h5⟩
    obtain ⟨q0, q1, q2⟩ := HQ.out w5 (hB1.trans (h5.bel.mono hB1.size))
    go_wp2_with fail
    refine (wrDone_any h5 (by simp <;> omega)).mono ?_
    rintro r w9 ⟨u, rfl, hO9, hB9⟩
    go_wp2
    go_ret2
    refine ⟨u, by rw [hk]; rfl, ?_, HB0.out.trans ((hB1.trans (hB9.mono hB1.size)).mono HB0.out.size)⟩
    have hO := hO9.base (N' := w.heap.size) (by have := hB1.size; have := HB0.out.size; omega)
    simpa [txSnap, numB] using hO
  · rw [if_neg hk]
    have ck1 := fun w' => ckSnap_any i t a m.length cap w'
    generalize ckSnap i t m.length = ke at *
    have hke : ((ke : Int) != 0) = true := by simp; omega
    go_enter Try.func27, Try.ntmps27
    go_wp2_with (go_at_call 29; refine (ck1 _).mono ?_; rintro e w1 ⟨rfl, hB1⟩; rw [HW0.out] at hB1)
    go_ret2
    exact ⟨_, rfl, Ow.nil _ _, HB0.out.trans (hB1.mono HB0.out.size)⟩

set_option maxRecDepth 100000 in
set_option maxHeartbeats 2000000 in
theorem refPutSnap_any (i t : Int) (m : List UInt8) (a : Option Addr) (cap : Nat) (w : World) (M : Nat) (hx : Sl M w (.slice a m.length cap) m) (hM : M ≤ w.heap.size) : Calls Try.prog 28 #[.agg #[.int .i64 i, .int .i64 t, .slice a m.length cap]] w fun r w' =>
    ∃ u, r = .returned (.tuple #[u, .int .i64 (ckSnap i t m.length : Int)]) ∧ Sl w'.heap.size w' u (if ckSnap i t m.length = 0 then txSnap i t m else []) ∧ Below w.heap.size w w' := by
  have hbi := numB_len i.toNat
  have hbt := numB_len t.toNat
  have hbm := numB_len m.length
  obtain ⟨W0, hW0⟩ : ∃ W0, (w.alloc (.cells #[.int .i64 i, .int .i64 t, .slice a m.length cap] 57)) = W0 := ⟨_, rfl⟩
  have HW0 : Hid ((w.alloc (.cells #[.int .i64 i, .int .i64 t, .slice a m.length cap] 57)) = W0) := hW0
  have HB0 : Hid (Below w.heap.size w W0) := by show Below w.heap.size w W0; rw [← hW0]; exact ((Below.refl _ w).alloc (by simp) _)
  have HQ : Hid (∀ w', Below W0.heap.size W0 w' → w'.cell? ⟨w.heap.size, 0, none⟩ = some (.int .i64 i) ∧ w'.cell? ⟨w.heap.size, 1, none⟩ = some (.int .i64 t) ∧ w'.cell? ⟨w.heap.size, 2, none⟩ = some (.slice a m.length cap)) := fun w' hB => by
    have hlt : w.heap.size < W0.heap.size := by rw [← hW0]; simp
    have hh : W0.heap[w.heap.size]? = some (.cells #[.int .i64 i, .int .i64 t, .slice a m.length cap] 57 (0, 0)) := by
      rw [← hW0]; exact World.alloc_heap_new w _
    have h2 := (hB.block _ hlt).trans hh
    refine ⟨?_, ?_, ?_⟩ <;> (simp only [World.cell?, h2]; rfl)
  clear hW0
  by_cases hk : ckSnap i t m.length = 0
  · rw [if_pos hk]
    obtain ⟨ki, kt, km⟩ := ckSnap_ok hk
    have hm30 : m.length ≤ 1073741824 := by omega
    have hx0 := hx.below (HB0.out.mono hM)
    have hM0 : M ≤ W0.heap.size := by have := HB0.out.size; omega
    go_enter Try.func28, Try.ntmps28
    go_wp2_with (go_at_call 30; refine (refCkSnap_any i t a m.length cap _).mono ?_; rintro e w1 ⟨rfl, hB1⟩; rw [HW0.out] at hB1; obtain ⟨q0, q1, q2⟩ := HQ.out w1 hB1; have h2 := newV (w := w1); obtain ⟨q0, q1, q2⟩ := HQ.out _ (hB1.trans (h2.bel.mono hB1.size)))
    have hx1 := hx0.below (hB1.mono hM0)
    have hM1 : M ≤ w1.heap.size := by have := hB1.size; omega
    clear hx hx0
    go_wp2_with fail
    refine (wvInt_any i h2 (by simp <;> omega) ki).mono ?_
    rintro r w3 ⟨rfl, h3⟩
    obtain ⟨q0, q1, q2⟩ := HQ.out w3 (hB1.trans (h3.bel.mono hB1.size))
    go_wp2_with fail
    refine (wvInt_any t h3 (by simp <;> omega) kt).mono ?_
    rintro r w4 ⟨rfl, h4⟩
    obtain ⟨q0, q1, q2⟩ := HQ.out w4 (hB1.trans (h4.bel.mono hB1.size))
    go_wp2_with fail
    refine (wvBytes_any 524288 h4 (by simp <;> omega) (by omega) hx1 hM1 km).mono ?_
    rintro r w5 ⟨rfl, h5⟩
    obtain ⟨q0, q1, q2⟩ := HQ.out w5 (hB1.trans (h5.bel.mono hB1.size))
    go_wp2_with fail
    refine (wvDone_any h5).mono ?_
    rintro r w9 ⟨u, rfl, hO9, hB9⟩
    go_wp2
    go_ret2
    refine ⟨u, by rw [hk]; rfl, ?_, HB0.out.trans ((hB1.trans (hB9.mono hB1.size)).mono HB0.out.size)⟩
    simpa [txSnap, numB] using hO9
  · rw [if_neg hk]
    have ck1 := fun w' => refCkSnap_any i t a m.length cap w'
    generalize ckSnap i t m.length = ke at *
    have hke : ((ke : Int) != 0) = true := by simp; omega
    go_enter Try.func28, Try.ntmps28
    go_wp2_with (go_at_call 30; refine (ck1 _).mono ?_; rintro e w1 ⟨rfl, hB1⟩; rw [HW0.out] at hB1)
    go_ret2
    exact ⟨_, rfl, Sl.nil _ _, HB0.out.trans (hB1.mono HB0.out.size)⟩

set_option maxRecDepth 100000 in
set_option maxHeartbeats 2000000 in
theorem putEntry_any (t i k : Int) (m : List UInt8) (a : Option Addr) (cap : Nat) (w : World) (M : Nat) (hx : Sl M w (.slice a m.length cap) m) (hM : M ≤ w.heap.size) : Calls Try.prog 10 #[.agg #[], .agg #[.int .i64 t, .int .i64 i, .int .i64 k, .slice a m.length cap]] w fun r w' =>
    ∃ u, r = .returned (.tuple #[u, .int .i64 (ckEntry t i k m.length : Int)]) ∧ Ow w.heap.size w' u (if ckEntry t i k m.length = 0 then txEntry t i k m else []) ∧ Below w.heap.size w w' := by
  have hbt := numB_len t.toNat
  have hbi := numB_len i.toNat
  have hbk := numB_len k.toNat
  have hbm := numB_len m.length
  obtain ⟨W0, hW0⟩ : ∃ W0, ((w.alloc (.cells #[] 27)).alloc (.cells #[.int .i64 t, .int .i64 i, .int .i64 k, .slice a m.length cap] 24)) = W0 := ⟨_, rfl⟩
  have HW0 : Hid (((w.alloc (.cells #[] 27)).alloc (.cells #[.int .i64 t, .int .i64 i, .int .i64 k, .slice a m.length cap] 24)) = W0) := hW0
  have HB0 : Hid (Below w.heap.size w W0) := by show Below w.heap.size w W0; rw [← hW0]; exact (((Below.refl _ w).alloc (by simp) _).alloc (by simp) _)
  have HQ : Hid (∀ w', Below W0.heap.size W0 w' → w'.cell? ⟨w.heap.size + 1, 0, none⟩ = some (.int .i64 t) ∧ w'.cell? ⟨w.heap.size + 1, 1, none⟩ = some (.int .i64 i) ∧ w'.cell? ⟨w.heap.size + 1, 2, none⟩ = some (.int .i64 k) ∧ w'.cell? ⟨w.heap.size + 1, 3, none⟩ = some (.slice a m.length cap)) := fun w' hB => by
    have hlt : w.heap.size + 1 < W0.heap.size := by rw [← hW0]; simp
    have hh : W0.heap[w.heap.size + 1]? = some (.cells #[.int .i64 t, .int .i64 i, .int .i64 k, .slice a m.length cap] 24 (0, 0)) := by
      rw [← hW0]; exact (by simpa using World.alloc_heap_new (w.alloc (.cells #[] 27)) _)
    have h2 := (hB.block _ hlt).trans hh
    refine ⟨?_, ?_, ?_, ?_⟩ <;> (simp only [World.cell?, h2]; rfl)
  clear hW0
  by_cases hk : ckEntry t i k m.length = 0
  · rw [if_pos hk]
    obtain ⟨kt, ki, kk, km⟩ := ckEntry_ok hk
    have hm30 : m.length ≤ 1073741824 := by omega
    have hx0 := hx.below (HB0.out.mono hM)
    have hM0 : M ≤ W0.heap.size := by have := HB0.out.size; omega
    go_enter Try.func10, Try.ntmps10
    go_wp2_with (go_at_call 14; refine (ckEntry_any t i k a m.length cap _).mono ?_; rintro e w1 ⟨rfl, hB1⟩; rw [HW0.out] at hB1; obtain ⟨q0, q1, q2, q3⟩ := HQ.out w1 hB1)
    have hx1 := hx0.below (hB1.mono hM0)
    have hM1 : M ≤ w1.heap.size := by have := hB1.size; omega
    clear hx hx0
    go_wp2_with fail
    refine (newW_any w1).mono ?_
    rintro r w2 ⟨rfl, h2⟩
    obtain ⟨q0, q1, q2, q3⟩ := HQ.out w2 (hB1.trans (h2.bel.mono hB1.size))
    go_wp2_with fail
    refine (wrInt_any t h2 (by simp <;> omega) kt).mono ?_
    rintro r w3 ⟨rfl, h3⟩
    obtain ⟨q0, q1, q2, q3⟩ := HQ.out w3 (hB1.trans (h3.bel.mono hB1.size))
    go_wp2_with fail
    refine (wrInt_any i h3 (by simp <;> omega) ki).mono ?_
    rintro r w4 ⟨rfl, h4⟩
    obtain ⟨q0, q1, q2, q3⟩ := HQ.out w4 (hB1.trans (h4.bel.mono hB1.size))
    go_wp2_with fail
    refine (wrInt_any k h4 (by simp <;> omega) kk).mono ?_
    rintro r w5 ⟨rfl, h5⟩
    obtain ⟨q0, q1, q2, q3⟩ := HQ.out w5 (hB1.trans (h5.bel.mono hB1.size))
    go_wp2_with fail
    refine (wrBytes_any 4096 h5 (by simp <;> omega) (by omega) hx1 hM1 km).mono ?_
    rintro r w6 ⟨rfl, h6⟩
    obtain ⟨q0, q1, q2, q3⟩ := HQ.out w6 (hB1.trans (h6.bel.mono hB1.size))
    go_wp2_with fail
    refine (wrDone_any h6 (by simp <;> omega)).mono ?_
    rintro r w9 ⟨u, rfl, hO9, hB9⟩
    go_wp2
    go_ret2
    refine ⟨u, by rw [hk]; rfl, ?_, HB0.out.trans ((hB1.trans (hB9.mono hB1.size)).mono HB0.out.size)⟩
    have hO := hO9.base (N' := w.heap.size) (by have := hB1.size; have := HB0.out.size; omega)
    simpa [txEntry, numB] using hO
  · rw [if_neg hk]
    have ck1 := fun w' => ckEntry_any t i k a m.length cap w'
    generalize ckEntry t i k m.length = ke at *
    have hke : ((ke : Int) != 0) = true := by simp; omega
    go_enter Try.func10, Try.ntmps10
    go_wp2_with (go_at_call 14; refine (ck1 _).mono ?_; rintro e w1 ⟨rfl, hB1⟩; rw [HW0.out] at hB1)
    go_ret2
    exact ⟨_, rfl, Ow.nil _ _, HB0.out.trans (hB1.mono HB0.out.size)⟩

set_option maxRecDepth 100000 in
set_option maxHeartbeats 2000000 in
theorem refPutEntry_any (t i k : Int) (m : List UInt8) (a : Option Addr) (cap : Nat) (w : World) (M : Nat) (hx : Sl M w (.slice a m.length cap) m) (hM : M ≤ w.heap.size) : Calls Try.prog 11 #[.agg #[.int .i64 t, .int .i64 i, .int .i64 k, .slice a m.length cap]] w fun r w' =>
    ∃ u, r = .returned (.tuple #[u, .int .i64 (ckEntry t i k m.length : Int)]) ∧ Sl w'.heap.size w' u (if ckEntry t i k m.length = 0 then txEntry t i k m else []) ∧ Below w.heap.size w w' := by
  have hbt := numB_len t.toNat
  have hbi := numB_len i.toNat
  have hbk := numB_len k.toNat
  have hbm := numB_len m.length
  obtain ⟨W0, hW0⟩ : ∃ W0, (w.alloc (.cells #[.int .i64 t, .int .i64 i, .int .i64 k, .slice a m.length cap] 24)) = W0 := ⟨_, rfl⟩
  have HW0 : Hid ((w.alloc (.cells #[.int .i64 t, .int .i64 i, .int .i64 k, .slice a m.length cap] 24)) = W0) := hW0
  have HB0 : Hid (Below w.heap.size w W0) := by show Below w.heap.size w W0; rw [← hW0]; exact ((Below.refl _ w).alloc (by simp) _)
  have HQ : Hid (∀ w', Below W0.heap.size W0 w' → w'.cell? ⟨w.heap.size, 0, none⟩ = some (.int .i64 t) ∧ w'.cell? ⟨w.heap.size, 1, none⟩ = some (.int .i64 i) ∧ w'.cell? ⟨w.heap.size, 2, none⟩ = some (.int .i64 k) ∧ w'.cell? ⟨w.heap.size, 3, none⟩ = some (.slice a m.length cap)) := fun w' hB => by
    have hlt : w.heap.size < W0.heap.size := by rw [← hW0]; simp
    have hh : W0.heap[w.heap.size]? = some (.cells #[.int .i64 t, .int .i64 i, .int .i64 k, .slice a m.length cap] 24 (0, 0)) := by
      rw [← hW0]; exact World.alloc_heap_new w _
    have h2 := (hB.block _ hlt).trans hh
    refine ⟨?_, ?_, ?_, ?_⟩ <;> (simp only [World.cell?, h2]; rfl)
  clear hW0
  by_cases hk : ckEntry t i k m.length = 0
  · rw [if_pos hk]
    obtain ⟨kt, ki, kk, km⟩ := ckEntry_ok hk
    have hm30 : m.length ≤ 1073741824 := by omega
    have hx0 := hx.below (HB0.out.mono hM)
    have hM0 : M ≤ W0.heap.size := by have := HB0.out.size; omega
    go_enter Try.func11, Try.ntmps11
    go_wp2_with (go_at_call 15; refine (refCkEntry_any t i k a m.length cap _).mono ?_; rintro e w1 ⟨rfl, hB1⟩; rw [HW0.out] at hB1; obtain ⟨q0, q1, q2, q3⟩ := HQ.out w1 hB1; have h2 := newV (w := w1); obtain ⟨q0, q1, q2, q3⟩ := HQ.out _ (hB1.trans (h2.bel.mono hB1.size)))
    have hx1 := hx0.below (hB1.mono hM0)
    have hM1 : M ≤ w1.heap.size := by have := hB1.size; omega
    clear hx hx0
    go_wp2_with fail
    refine (wvInt_any t h2 (by simp <;> omega) kt).mono ?_
    rintro r w3 ⟨rfl, h3⟩
    obtain ⟨q0, q1, q2, q3⟩ := HQ.out w3 (hB1.trans (h3.bel.mono hB1.size))
    go_wp2_with fail
    refine (wvInt_any i h3 (by simp <;> omega) ki).mono ?_
    rintro r w4 ⟨rfl, h4⟩
    obtain ⟨q0, q1, q2, q3⟩ := HQ.out w4 (hB1.trans (h4.bel.mono hB1.size))
    go_wp2_with fail
    refine (wvInt_any k h4 (by simp <;> omega) kk).mono ?_
    rintro r w5 ⟨rfl, h5⟩
    obtain ⟨q0, q1, q2, q3⟩ := HQ.out w5 (hB1.trans (h5.bel.mono hB1.size))
    go_wp2_with fail
    refine (wvBytes_any 4096 h5 (by simp <;> omega) (by omega) hx1 hM1 km).mono ?_
    rintro r w6 ⟨rfl, h6⟩
    obtain ⟨q0, q1, q2, q3⟩ := HQ.out w6 (hB1.trans (h6.bel.mono hB1.size))
    go_wp2_with fail
    refine (wvDone_any h6).mono ?_
    rintro r w9 ⟨u, rfl, hO9, hB9⟩
    go_wp2
    go_ret2
    refine ⟨u, by rw [hk]; rfl, ?_, HB0.out.trans ((hB1.trans (hB9.mono hB1.size)).mono HB0.out.size)⟩
    simpa [txEntry, numB] using hO9
  · rw [if_neg hk]
    have ck1 := fun w' => refCkEntry_any t i k a m.length cap w'
    generalize ckEntry t i k m.length = ke at *
    have hke : ((ke : Int) != 0) = true := by simp; omega
    go_enter Try.func11, Try.ntmps11
    go_wp2_with (go_at_call 15; refine (ck1 _).mono ?_; rintro e w1 ⟨rfl, hB1⟩; rw [HW0.out] at hB1)
    go_ret2
    exact ⟨_, rfl, Sl.nil _ _, HB0.out.trans (hB1.mono HB0.out.size)⟩

end Go.Proofs.Ytfnnbfgfmbiabaa

/-
  One thing's text put as bytes.
-/
namespace Go.Proofs.Ytfnnbfgfmbiabaa
open Go.RowKit Go.Shelf

set_option maxRecDepth 100000 in
set_option maxHeartbeats 8000000 in
theorem putOneSnap_any (i t size : Int) (m : List UInt8) (a : Option Addr) (cap M : Nat) {w0 w : World} {l : List UInt8} (h : Wr w0 w l) (hl : l.length ≤ 100000000) (hx : Sl M w (.slice a m.length cap) m) (hM : M ≤ w.heap.size) (hk : ckSnap i t m.length = 0) (hs : ((txSnap i t m).length : Int) ≤ size) (hs2 : (txSnap i t m).length ≤ 100000000) :
    Calls Try.prog 113 #[.pointer (some ⟨w0.heap.size, 0, none⟩), .iface 58 (.agg #[]), .agg #[.int .i64 i, .int .i64 t, .slice a m.length cap], .int .i64 size] w fun r w' => r = .returned (.int .i64 0) ∧ Wr w0 w' (l ++ (numB (txSnap i t m).length ++ txSnap i t m)) := by
  have hB0 : Below w.heap.size w (w.alloc (.cells #[.int .i64 i, .int .i64 t, .slice a m.length cap] 57)) := (Below.refl _ w).alloc (Nat.le_refl _) _
  have hp := putSnap_any i t m a cap (w.alloc (.cells #[.int .i64 i, .int .i64 t, .slice a m.length cap] 57)) M (hx.below (hB0.mono hM)) (by simp; omega)
  rw [hk] at hp
  simp only [if_true] at hp
  generalize txSnap i t m = T at *
  go_enter Try.func113, Try.ntmps113
  go_wp2_with fail
  refine hp.mono ?_
  rintro e w2 ⟨u, rfl, hO, hB⟩
  obtain ⟨ua, uc, rfl, -, -⟩ := hO.shape
  have hB2 : Below w.heap.size w w2 := hB0.trans (hB.mono (by simp))
  have hS : Ws w0 w2 (fun k => w.heap.size ≤ k ∧ k < w2.heap.size) l := h.ws hB2 (fun k hk => hk)
  have hN : ∀ k, (Value.slice ua T.length uc).ownBlock = some k → w.heap.size ≤ k ∧ k < w2.heap.size := fun k e => by
    have := World.ownsRow.lt hO k e
    simp only [World.size_alloc] at this
    omega
  clear hB hB0 hp
  go_wp2_with fail
  refine (wsBytes_any size hS (by omega) (by omega) hO hN hs).mono ?_
  rintro e w3 ⟨rfl, hS3, -⟩
  go_wp2
  go_returns
  exact ⟨rfl, hS3.wr⟩

set_option maxRecDepth 100000 in
set_option maxHeartbeats 8000000 in
theorem putOneEntry_any (t i k size : Int) (m : List UInt8) (a : Option Addr) (cap M : Nat) {w0 w : World} {l : List UInt8} (h : Wr w0 w l) (hl : l.length ≤ 100000000) (hx : Sl M w (.slice a m.length cap) m) (hM : M ≤ w.heap.size) (hk : ckEntry t i k m.length = 0) (hs : ((txEntry t i k m).length : Int) ≤ size) (hs2 : (txEntry t i k m).length ≤ 100000000) :
    Calls Try.prog 124 #[.pointer (some ⟨w0.heap.size, 0, none⟩), .iface 27 (.agg #[]), .agg #[.int .i64 t, .int .i64 i, .int .i64 k, .slice a m.length cap], .int .i64 size] w fun r w' => r = .returned (.int .i64 0) ∧ Wr w0 w' (l ++ (numB (txEntry t i k m).length ++ txEntry t i k m)) := by
  have hB0 : Below w.heap.size w (w.alloc (.cells #[.int .i64 t, .int .i64 i, .int .i64 k, .slice a m.length cap] 24)) := (Below.refl _ w).alloc (Nat.le_refl _) _
  have hp := putEntry_any t i k m a cap (w.alloc (.cells #[.int .i64 t, .int .i64 i, .int .i64 k, .slice a m.length cap] 24)) M (hx.below (hB0.mono hM)) (by simp; omega)
  rw [hk] at hp
  simp only [if_true] at hp
  generalize txEntry t i k m = T at *
  go_enter Try.func124, Try.ntmps124
  go_wp2_with fail
  refine hp.mono ?_
  rintro e w2 ⟨u, rfl, hO, hB⟩
  obtain ⟨ua, uc, rfl, -, -⟩ := hO.shape
  have hB2 : Below w.heap.size w w2 := hB0.trans (hB.mono (by simp))
  have hS : Ws w0 w2 (fun k => w.heap.size ≤ k ∧ k < w2.heap.size) l := h.ws hB2 (fun k hk => hk)
  have hN : ∀ k, (Value.slice ua T.length uc).ownBlock = some k → w.heap.size ≤ k ∧ k < w2.heap.size := fun k e => by
    have := World.ownsRow.lt hO k e
    simp only [World.size_alloc] at this
    omega
  clear hB hB0 hp
  go_wp2_with fail
  refine (wsBytes_any size hS (by omega) (by omega) hO hN hs).mono ?_
  rintro e w3 ⟨rfl, hS3, -⟩
  go_wp2
  go_returns
  exact ⟨rfl, hS3.wr⟩

end Go.Proofs.Ytfnnbfgfmbiabaa

/-
  Entries put, one behind the other.
-/
namespace Go.Proofs.Ytfnnbfgfmbiabaa
open Go.RowKit Go.Shelf

/-- An entry's text. -/
def Ent.tx (e : Ent) : List UInt8 := txEntry e.t e.i e.k e.d
/-- Entries' texts, each with its length ahead. -/
def packs : List Ent → List UInt8
  | [] => []
  | e :: r => (numB e.tx.length ++ e.tx) ++ packs r

theorem firstErr_ok' {e : Ent} {r : List Ent} (h : e.ck = 0) : firstErr (e :: r) = firstErr r := by simp [firstErr, h]
theorem firstErr_no' {e : Ent} {r : List Ent} (h : e.ck ≠ 0) : firstErr (e :: r) = e.ck := by simp [firstErr, h]
theorem packs_append (a b : List Ent) : packs (a ++ b) = packs a ++ packs b := by
  induction a with
  | nil => rfl
  | cons e r ih => simp [packs, ih]

theorem ent_len {e : Ent} (h : e.ck = 0) : e.tx.length ≤ 4136 := by
  obtain ⟨_, _, _, h4⟩ := ckEntry_ok h
  have := txEntry_len e.t e.i e.k e.d
  unfold Ent.tx
  omega
theorem firstErr_all {es : List Ent} (h : firstErr es = 0) : ∀ e ∈ es, e.ck = 0 := by
  induction es with
  | nil => simp
  | cons e r ih =>
    by_cases hk : e.ck = 0
    · rw [firstErr_ok' hk] at h
      intro x hx
      rcases List.mem_cons.1 hx with rfl | hx
      · exact hk
      · exact ih h x hx
    · rw [firstErr_no' hk] at h
      exact absurd h hk
theorem packs_len {es : List Ent} (h : ∀ e ∈ es, e.ck = 0) : (packs es).length ≤ 5000 * es.length := by
  induction es with
  | nil => simp [packs]
  | cons e r ih =>
    have h1 := ent_len (h e (by simp))
    have h2 := ih (fun x hx => h x (by simp [hx]))
    have h3 := numB_len e.tx.length
    simp [packs]
    omega
theorem take_succ' {es : List Ent} {k : Nat} (h : k < es.length) : es.take (k + 1) = es.take k ++ [es.getD k nilEnt] := by
  rw [List.take_succ_eq_append_getElem h, List.getD_eq_getElem?_getD, List.getElem?_eq_getElem h]; rfl
theorem packs_take {es : List Ent} {k : Nat} (h : k < es.length) : packs (es.take (k + 1)) = packs (es.take k) ++ (numB (es.getD k nilEnt).tx.length ++ (es.getD k nilEnt).tx) := by
  rw [take_succ' h, packs_append]; simp [packs]
theorem getD_mem {es : List Ent} {k : Nat} (h : k < es.length) : es.getD k nilEnt ∈ es := by
  rw [List.getD_eq_getElem?_getD, List.getElem?_eq_getElem h]; exact List.getElem_mem h

set_option maxRecDepth 100000 in
set_option maxHeartbeats 8000000 in
theorem putAll_any (ea : Option Addr) (ec : Nat) (es : List Ent) (size : Int) {w0 w : World} {l : List UInt8} (N : Nat) (h : Wr w0 w l) (hl : l.length ≤ 1000000) (hE : EntsAt N w0 ea es) (hN : N ≤ w0.heap.size) (hk : firstErr es = 0) (hs : 8192 ≤ size) (hn : es.length ≤ 1000) :
    Calls Try.prog 112 #[.pointer (some ⟨w0.heap.size, 0, none⟩), .iface 27 (.agg #[]), .slice ea es.length ec, .int .i64 size] w fun r w' => r = .returned (.int .i64 0) ∧ Wr w0 w' (l ++ numB es.length ++ packs es) := by
  have HA : Hid (∀ e ∈ es, e.ck = 0) := firstErr_all hk
  have HEE : Hid (EntsAt N w0 ea es) := hE
  have hb := numB_len es.length
  have hnn : isNumB (es.length : Int) = true := by simp [isNumB]; omega
  clear hE hk
  go_enter Try.func112, Try.ntmps112
  go_wp2_with fail
  refine (wrInt_any (es.length : Int) h (by omega) hnn).mono ?_
  rintro r w1 ⟨rfl, h1⟩
  rw [Int.toNat_natCast] at h1
  go_wp2_with fail
  go_loopw [18] (fun iv wr => ∃ (k : Nat), iv = .int .i64 (k : Int) ∧ k ≤ es.length ∧ Wr w0 wr (l ++ numB es.length ++ packs (es.take k))) (fun iv _ => es.length - (intOf iv).toNat)
  case atStart => exact ⟨0, rfl, Nat.zero_le _, by simpa [packs] using h1⟩
  case round =>
    obtain ⟨k, rfl, hk, hW⟩ := hrel
    by_cases hlt : k < es.length
    · obtain ⟨b, off, hea, hb', he⟩ := HEE.out.at hlt
      subst hea
      have he' := he.below hb' (hW.bel.mono hN)
      have hck := HA.out _ (getD_mem hlt)
      have HP : Hid (packs (es.take (k + 1)) = packs (es.take k) ++ (numB (es.getD k nilEnt).tx.length ++ (es.getD k nilEnt).tx)) := packs_take hlt
      have hpl := packs_len (es := es.take k) (fun e he => HA.out e (List.mem_of_mem_take he))
      have htl : (es.take k).length = k := by simp; omega
      rw [htl] at hpl
      generalize es.getD k nilEnt = e at *
      have hel := ent_len hck
      obtain ⟨et, ei, ek, eaa, ecc, ed⟩ := e
      obtain ⟨c0, c1, c2, c3, c4⟩ := he'
      unfold Ent.x at c3 c4
      unfold Ent.tx at HP hel
      unfold Ent.ck at hck
      simp only at c0 c1 c2 c3 c4 HP hel hck
      have hbw : b < wr.heap.size := by have := hW.bel.size; omega
      have hB0 : Below wr.heap.size wr (wr.alloc (.cells #[.int .i64 et, .int .i64 ei, .int .i64 ek, .slice eaa ed.length ecc] 24)) := (Below.refl _ wr).alloc (Nat.le_refl _) _
      have hW0 := hW.mono hB0
      have hc4 := c4.below (hB0.mono (by have := hW.bel.size; omega))
      have hNN : N ≤ (wr.alloc (.cells #[.int .i64 et, .int .i64 ei, .int .i64 ek, .slice eaa ed.length ecc] 24)).heap.size := by have := hW.bel.size; simp; omega
      have hp := putOneEntry_any et ei ek size ed eaa ecc N hW0 (by simp; omega) hc4 hNN hck (by omega) (by omega)
      have HF : Hid (∀ w', Wr w0 w' (l ++ numB es.length ++ packs (es.take k) ++ (numB (txEntry et ei ek ed).length ++ txEntry et ei ek ed)) → Wr w0 w' (l ++ numB es.length ++ packs (es.take (k + 1)))) := fun w' hw => by
        rw [HP.out, ← List.append_assoc]; exact hw
      clear he hc4 hW0 hB0 hck hel c4 hpl
      generalize (l ++ numB es.length ++ packs (es.take k) ++ (numB (txEntry et ei ek ed).length ++ txEntry et ei ek ed)) = L at *
      go_wp2_with (go_at_call 124; refine hp.mono ?_; rintro r w5 ⟨rfl, hW5⟩)
      exact ⟨⟨k + 1, by go_num, by omega, HF.out _ hW5⟩, by simp [intOf]; omega⟩
    · have HF : Hid (Wr w0 wr (l ++ numB es.length ++ packs es)) := by
        have e0 : es.take k = es := List.take_of_length_le (by omega)
        rw [e0] at hW; exact hW
      clear hW
      go_wp2
      go_returns
      exact ⟨rfl, HF.out⟩
end Go.Proofs.Ytfnnbfgfmbiabaa

