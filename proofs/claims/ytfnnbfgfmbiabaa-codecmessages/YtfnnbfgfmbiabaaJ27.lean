/-
  RefP1.
-/
import Derived.Test.YtfnnbfgfmbiabaaJ24
import Derived.Test.YtfnnbfgfmbiabaaJ26
import Derived.Test.YtfnnbfgfmbiabaaJ19
import Derived.Test.YtfnnbfgfmbiabaaJ15
/-
  The document's put of messages, kinds 1, 2, 4.
-/
namespace Go.Proofs.Ytfnnbfgfmbiabaa
open Go.RowKit Go.Shelf

set_option linter.unusedVariables false

set_option maxRecDepth 100000 in
set_option maxHeartbeats 8000000 in
theorem refPutM1_any (fr to tm ix lt cm hi cx : Int) (rj : Bool) (ea : Option Addr) (ec : Nat) (es : List Ent) (si st : Int) (sa : Option Addr) (sc : Nat) (sd : List UInt8) (N : Nat) (w : World) (hE : EntsAt N w ea es) (hD : Sl N w (.slice sa sd.length sc) sd) (hN : N ≤ w.heap.size) (hz : es.length ≤ 1000000) : Calls Try.prog 48 #[.agg #[.int .i64 1, .int .i64 fr, .int .i64 to, .int .i64 tm, .int .i64 ix, .int .i64 lt, .int .i64 cm, .int .i64 hi, .int .i64 cx, .bool rj, .slice ea es.length ec, .int .i64 si, .int .i64 st, .slice sa sd.length sc]] w fun r w' =>
    ∃ u, r = .returned (.tuple #[u, .int .i64 (ckM1 fr to tm ix lt cm hi cx rj es.length si st sd.length : Int)]) ∧ Sl w'.heap.size w' u (if ckM1 fr to tm ix lt cm hi cx rj es.length si st sd.length = 0 then txM1 fr to tm ix lt else []) ∧ Below w.heap.size w w' := by
  have hbfr := numB_len fr.toNat
  have hbto := numB_len to.toNat
  have hbtm := numB_len tm.toNat
  have hbix := numB_len ix.toNat
  have hblt := numB_len lt.toNat
  have hbcm := numB_len cm.toNat
  have hbhi := numB_len hi.toNat
  have hbcx := numB_len cx.toNat
  have hbrj := numB_len (bN rj)
  have hb0 := numB_len 1
  obtain ⟨W0, hW0⟩ : ∃ W0, w.alloc (.cells #[.int .i64 1, .int .i64 fr, .int .i64 to, .int .i64 tm, .int .i64 ix, .int .i64 lt, .int .i64 cm, .int .i64 hi, .int .i64 cx, .bool rj, .slice ea es.length ec, .int .i64 si, .int .i64 st, .slice sa sd.length sc] 95) = W0 := ⟨_, rfl⟩
  have HW0 : Hid (w.alloc (.cells #[.int .i64 1, .int .i64 fr, .int .i64 to, .int .i64 tm, .int .i64 ix, .int .i64 lt, .int .i64 cm, .int .i64 hi, .int .i64 cx, .bool rj, .slice ea es.length ec, .int .i64 si, .int .i64 st, .slice sa sd.length sc] 95) = W0) := hW0
  have HB0 : Hid (Below w.heap.size w W0) := by show Below w.heap.size w W0; rw [← hW0]; exact (Below.refl _ w).alloc (by simp) _
  have HX : Hid (∀ w', Below W0.heap.size W0 w' → w'.heap[w.heap.size]? = some (.cells #[.int .i64 1, .int .i64 fr, .int .i64 to, .int .i64 tm, .int .i64 ix, .int .i64 lt, .int .i64 cm, .int .i64 hi, .int .i64 cx, .bool rj, .slice ea es.length ec, .int .i64 si, .int .i64 st, .slice sa sd.length sc] 95 (0, 0))) := fun w' hB => by
    refine (hB.block _ (by rw [← hW0]; simp)).trans ?_
    rw [← hW0]; exact World.alloc_heap_new w _
  have HS0 : Hid (W0.heap.size = w.heap.size + 1) := by show W0.heap.size = _; rw [← hW0]; simp
  clear hW0
  have hNW : N ≤ W0.heap.size := by have := HS0.out; omega
  have hck := refChkM1_any fr to tm ix lt cm hi cx rj ea ec es si st sa sc sd N W0 (hE.below (HB0.out.mono hN)) (hD.below (HB0.out.mono hN)) hNW hz
  by_cases hk : ckM1 fr to tm ix lt cm hi cx rj es.length si st sd.length = 0
  case neg =>
    rw [if_neg hk]
    generalize ckM1 fr to tm ix lt cm hi cx rj es.length si st sd.length = ke at *
    have hke : ((ke : Int) != 0) = true := by simp; omega
    go_enter Try.func48, Try.ntmps48
    go_wp2_with (go_at_call 50; rw [HW0.out]; refine hck.mono ?_; rintro e w1 ⟨rfl, hB1⟩)
    go_ret2
    exact ⟨_, rfl, Sl.nil _ _, HB0.out.trans (hB1.mono HB0.out.size)⟩
  rw [if_pos hk]
  obtain ⟨kfr, kto, ktm, kix, klt, kcm, khi, kcx⟩ := ckM1_ok hk
  have k0 : isNumB 1 = true := by decide
  rw [hk] at hck
  have HEE : Hid (EntsAt N W0 ea es) := hE.below (HB0.out.mono hN)
  have HSD : Hid (Sl N W0 (.slice sa sd.length sc) sd) := hD.below (HB0.out.mono hN)
  clear hE hD
  go_enter Try.func48, Try.ntmps48
  go_wp2_with (go_at_call 50; rw [HW0.out]; refine hck.mono ?_; rintro e w1 ⟨rfl, hB1⟩; obtain ⟨⟨q0, q1, q2, q3, q4, q5, q6, q7, q8, q9, q10, q11, q12, q13⟩, -⟩ := cells14 (HX.out _ hB1); have h2 := newV (w := w1); obtain ⟨⟨q0, q1, q2, q3, q4, q5, q6, q7, q8, q9, q10, q11, q12, q13⟩, -⟩ := cells14 (HX.out _ (hB1.trans (h2.bel.mono hB1.size))))
  refine (wvInt_any 1 h2 (by first | omega | (simp <;> omega)) k0).mono ?_
  rintro r w3 ⟨rfl, h3⟩
  obtain ⟨⟨q0, q1, q2, q3, q4, q5, q6, q7, q8, q9, q10, q11, q12, q13⟩, -⟩ := cells14 (HX.out _ (hB1.trans (h3.bel.mono hB1.size)))
  go_wp2_with fail
  refine (wvInt_any fr h3 (by first | omega | (simp <;> omega)) kfr).mono ?_
  rintro r w4 ⟨rfl, h4⟩
  obtain ⟨⟨q0, q1, q2, q3, q4, q5, q6, q7, q8, q9, q10, q11, q12, q13⟩, -⟩ := cells14 (HX.out _ (hB1.trans (h4.bel.mono hB1.size)))
  go_wp2_with fail
  refine (wvInt_any to h4 (by first | omega | (simp <;> omega)) kto).mono ?_
  rintro r w5 ⟨rfl, h5⟩
  obtain ⟨⟨q0, q1, q2, q3, q4, q5, q6, q7, q8, q9, q10, q11, q12, q13⟩, -⟩ := cells14 (HX.out _ (hB1.trans (h5.bel.mono hB1.size)))
  go_wp2_with fail
  refine (wvInt_any tm h5 (by first | omega | (simp <;> omega)) ktm).mono ?_
  rintro r w6 ⟨rfl, h6⟩
  obtain ⟨⟨q0, q1, q2, q3, q4, q5, q6, q7, q8, q9, q10, q11, q12, q13⟩, -⟩ := cells14 (HX.out _ (hB1.trans (h6.bel.mono hB1.size)))
  go_wp2_with fail
  refine (wvInt_any ix h6 (by first | omega | (simp <;> omega)) kix).mono ?_
  rintro r w7 ⟨rfl, h7⟩
  obtain ⟨⟨q0, q1, q2, q3, q4, q5, q6, q7, q8, q9, q10, q11, q12, q13⟩, -⟩ := cells14 (HX.out _ (hB1.trans (h7.bel.mono hB1.size)))
  go_wp2_with fail
  refine (wvInt_any lt h7 (by first | omega | (simp <;> omega)) klt).mono ?_
  rintro r w8 ⟨rfl, h8⟩
  obtain ⟨⟨q0, q1, q2, q3, q4, q5, q6, q7, q8, q9, q10, q11, q12, q13⟩, -⟩ := cells14 (HX.out _ (hB1.trans (h8.bel.mono hB1.size)))
  go_wp2_with fail
  refine (wvDone_any h8).mono ?_
  rintro r w9 ⟨u, rfl, hO9, hB9⟩
  go_wp2
  go_ret2
  refine ⟨u, by rw [hk]; rfl, ?_, HB0.out.trans ((hB1.trans (hB9.mono hB1.size)).mono HB0.out.size)⟩
  simpa [txM1, numB] using hO9

set_option maxRecDepth 100000 in
set_option maxHeartbeats 8000000 in
theorem refPutM2_any (fr to tm ix lt cm hi cx : Int) (rj : Bool) (ea : Option Addr) (ec : Nat) (es : List Ent) (si st : Int) (sa : Option Addr) (sc : Nat) (sd : List UInt8) (N : Nat) (w : World) (hE : EntsAt N w ea es) (hD : Sl N w (.slice sa sd.length sc) sd) (hN : N ≤ w.heap.size) (hz : es.length ≤ 1000000) : Calls Try.prog 48 #[.agg #[.int .i64 2, .int .i64 fr, .int .i64 to, .int .i64 tm, .int .i64 ix, .int .i64 lt, .int .i64 cm, .int .i64 hi, .int .i64 cx, .bool rj, .slice ea es.length ec, .int .i64 si, .int .i64 st, .slice sa sd.length sc]] w fun r w' =>
    ∃ u, r = .returned (.tuple #[u, .int .i64 (ckM2 fr to tm ix lt cm hi cx rj es.length si st sd.length : Int)]) ∧ Sl w'.heap.size w' u (if ckM2 fr to tm ix lt cm hi cx rj es.length si st sd.length = 0 then txM2 fr to tm  rj else []) ∧ Below w.heap.size w w' := by
  have hbfr := numB_len fr.toNat
  have hbto := numB_len to.toNat
  have hbtm := numB_len tm.toNat
  have hbix := numB_len ix.toNat
  have hblt := numB_len lt.toNat
  have hbcm := numB_len cm.toNat
  have hbhi := numB_len hi.toNat
  have hbcx := numB_len cx.toNat
  have hbrj := numB_len (bN rj)
  have hb0 := numB_len 2
  obtain ⟨W0, hW0⟩ : ∃ W0, w.alloc (.cells #[.int .i64 2, .int .i64 fr, .int .i64 to, .int .i64 tm, .int .i64 ix, .int .i64 lt, .int .i64 cm, .int .i64 hi, .int .i64 cx, .bool rj, .slice ea es.length ec, .int .i64 si, .int .i64 st, .slice sa sd.length sc] 95) = W0 := ⟨_, rfl⟩
  have HW0 : Hid (w.alloc (.cells #[.int .i64 2, .int .i64 fr, .int .i64 to, .int .i64 tm, .int .i64 ix, .int .i64 lt, .int .i64 cm, .int .i64 hi, .int .i64 cx, .bool rj, .slice ea es.length ec, .int .i64 si, .int .i64 st, .slice sa sd.length sc] 95) = W0) := hW0
  have HB0 : Hid (Below w.heap.size w W0) := by show Below w.heap.size w W0; rw [← hW0]; exact (Below.refl _ w).alloc (by simp) _
  have HX : Hid (∀ w', Below W0.heap.size W0 w' → w'.heap[w.heap.size]? = some (.cells #[.int .i64 2, .int .i64 fr, .int .i64 to, .int .i64 tm, .int .i64 ix, .int .i64 lt, .int .i64 cm, .int .i64 hi, .int .i64 cx, .bool rj, .slice ea es.length ec, .int .i64 si, .int .i64 st, .slice sa sd.length sc] 95 (0, 0))) := fun w' hB => by
    refine (hB.block _ (by rw [← hW0]; simp)).trans ?_
    rw [← hW0]; exact World.alloc_heap_new w _
  have HS0 : Hid (W0.heap.size = w.heap.size + 1) := by show W0.heap.size = _; rw [← hW0]; simp
  clear hW0
  have hNW : N ≤ W0.heap.size := by have := HS0.out; omega
  have hck := refChkM2_any fr to tm ix lt cm hi cx rj ea ec es si st sa sc sd N W0 (hE.below (HB0.out.mono hN)) (hD.below (HB0.out.mono hN)) hNW hz
  by_cases hk : ckM2 fr to tm ix lt cm hi cx rj es.length si st sd.length = 0
  case neg =>
    rw [if_neg hk]
    generalize ckM2 fr to tm ix lt cm hi cx rj es.length si st sd.length = ke at *
    have hke : ((ke : Int) != 0) = true := by simp; omega
    go_enter Try.func48, Try.ntmps48
    go_wp2_with (go_at_call 50; rw [HW0.out]; refine hck.mono ?_; rintro e w1 ⟨rfl, hB1⟩)
    go_ret2
    exact ⟨_, rfl, Sl.nil _ _, HB0.out.trans (hB1.mono HB0.out.size)⟩
  rw [if_pos hk]
  obtain ⟨kfr, kto, ktm, kix, klt, kcm, khi, kcx⟩ := ckM2_ok hk
  have k0 : isNumB 2 = true := by decide
  rw [hk] at hck
  have HEE : Hid (EntsAt N W0 ea es) := hE.below (HB0.out.mono hN)
  have HSD : Hid (Sl N W0 (.slice sa sd.length sc) sd) := hD.below (HB0.out.mono hN)
  clear hE hD
  go_enter Try.func48, Try.ntmps48
  go_wp2_with (go_at_call 50; rw [HW0.out]; refine hck.mono ?_; rintro e w1 ⟨rfl, hB1⟩; obtain ⟨⟨q0, q1, q2, q3, q4, q5, q6, q7, q8, q9, q10, q11, q12, q13⟩, -⟩ := cells14 (HX.out _ hB1); have h2 := newV (w := w1); obtain ⟨⟨q0, q1, q2, q3, q4, q5, q6, q7, q8, q9, q10, q11, q12, q13⟩, -⟩ := cells14 (HX.out _ (hB1.trans (h2.bel.mono hB1.size))))
  refine (wvInt_any 2 h2 (by first | omega | (simp <;> omega)) k0).mono ?_
  rintro r w3 ⟨rfl, h3⟩
  obtain ⟨⟨q0, q1, q2, q3, q4, q5, q6, q7, q8, q9, q10, q11, q12, q13⟩, -⟩ := cells14 (HX.out _ (hB1.trans (h3.bel.mono hB1.size)))
  go_wp2_with fail
  refine (wvInt_any fr h3 (by first | omega | (simp <;> omega)) kfr).mono ?_
  rintro r w4 ⟨rfl, h4⟩
  obtain ⟨⟨q0, q1, q2, q3, q4, q5, q6, q7, q8, q9, q10, q11, q12, q13⟩, -⟩ := cells14 (HX.out _ (hB1.trans (h4.bel.mono hB1.size)))
  go_wp2_with fail
  refine (wvInt_any to h4 (by first | omega | (simp <;> omega)) kto).mono ?_
  rintro r w5 ⟨rfl, h5⟩
  obtain ⟨⟨q0, q1, q2, q3, q4, q5, q6, q7, q8, q9, q10, q11, q12, q13⟩, -⟩ := cells14 (HX.out _ (hB1.trans (h5.bel.mono hB1.size)))
  go_wp2_with fail
  refine (wvInt_any tm h5 (by first | omega | (simp <;> omega)) ktm).mono ?_
  rintro r w6 ⟨rfl, h6⟩
  obtain ⟨⟨q0, q1, q2, q3, q4, q5, q6, q7, q8, q9, q10, q11, q12, q13⟩, -⟩ := cells14 (HX.out _ (hB1.trans (h6.bel.mono hB1.size)))
  go_wp2_with fail
  refine (wvBoolN_any rj h6 (by first | omega | (simp <;> omega))).mono ?_
  rintro r w7 ⟨rfl, h7⟩
  obtain ⟨⟨q0, q1, q2, q3, q4, q5, q6, q7, q8, q9, q10, q11, q12, q13⟩, -⟩ := cells14 (HX.out _ (hB1.trans (h7.bel.mono hB1.size)))
  go_wp2_with fail
  refine (wvDone_any h7).mono ?_
  rintro r w9 ⟨u, rfl, hO9, hB9⟩
  go_wp2
  go_ret2
  refine ⟨u, by rw [hk]; rfl, ?_, HB0.out.trans ((hB1.trans (hB9.mono hB1.size)).mono HB0.out.size)⟩
  simpa [txM2, numB] using hO9

set_option maxRecDepth 100000 in
set_option maxHeartbeats 8000000 in
theorem refPutM4_any (fr to tm ix lt cm hi cx : Int) (rj : Bool) (ea : Option Addr) (ec : Nat) (es : List Ent) (si st : Int) (sa : Option Addr) (sc : Nat) (sd : List UInt8) (N : Nat) (w : World) (hE : EntsAt N w ea es) (hD : Sl N w (.slice sa sd.length sc) sd) (hN : N ≤ w.heap.size) (hz : es.length ≤ 1000000) : Calls Try.prog 48 #[.agg #[.int .i64 4, .int .i64 fr, .int .i64 to, .int .i64 tm, .int .i64 ix, .int .i64 lt, .int .i64 cm, .int .i64 hi, .int .i64 cx, .bool rj, .slice ea es.length ec, .int .i64 si, .int .i64 st, .slice sa sd.length sc]] w fun r w' =>
    ∃ u, r = .returned (.tuple #[u, .int .i64 (ckM4 fr to tm ix lt cm hi cx rj es.length si st sd.length : Int)]) ∧ Sl w'.heap.size w' u (if ckM4 fr to tm ix lt cm hi cx rj es.length si st sd.length = 0 then txM4 fr to tm ix hi rj else []) ∧ Below w.heap.size w w' := by
  have hbfr := numB_len fr.toNat
  have hbto := numB_len to.toNat
  have hbtm := numB_len tm.toNat
  have hbix := numB_len ix.toNat
  have hblt := numB_len lt.toNat
  have hbcm := numB_len cm.toNat
  have hbhi := numB_len hi.toNat
  have hbcx := numB_len cx.toNat
  have hbrj := numB_len (bN rj)
  have hb0 := numB_len 4
  obtain ⟨W0, hW0⟩ : ∃ W0, w.alloc (.cells #[.int .i64 4, .int .i64 fr, .int .i64 to, .int .i64 tm, .int .i64 ix, .int .i64 lt, .int .i64 cm, .int .i64 hi, .int .i64 cx, .bool rj, .slice ea es.length ec, .int .i64 si, .int .i64 st, .slice sa sd.length sc] 95) = W0 := ⟨_, rfl⟩
  have HW0 : Hid (w.alloc (.cells #[.int .i64 4, .int .i64 fr, .int .i64 to, .int .i64 tm, .int .i64 ix, .int .i64 lt, .int .i64 cm, .int .i64 hi, .int .i64 cx, .bool rj, .slice ea es.length ec, .int .i64 si, .int .i64 st, .slice sa sd.length sc] 95) = W0) := hW0
  have HB0 : Hid (Below w.heap.size w W0) := by show Below w.heap.size w W0; rw [← hW0]; exact (Below.refl _ w).alloc (by simp) _
  have HX : Hid (∀ w', Below W0.heap.size W0 w' → w'.heap[w.heap.size]? = some (.cells #[.int .i64 4, .int .i64 fr, .int .i64 to, .int .i64 tm, .int .i64 ix, .int .i64 lt, .int .i64 cm, .int .i64 hi, .int .i64 cx, .bool rj, .slice ea es.length ec, .int .i64 si, .int .i64 st, .slice sa sd.length sc] 95 (0, 0))) := fun w' hB => by
    refine (hB.block _ (by rw [← hW0]; simp)).trans ?_
    rw [← hW0]; exact World.alloc_heap_new w _
  have HS0 : Hid (W0.heap.size = w.heap.size + 1) := by show W0.heap.size = _; rw [← hW0]; simp
  clear hW0
  have hNW : N ≤ W0.heap.size := by have := HS0.out; omega
  have hck := refChkM4_any fr to tm ix lt cm hi cx rj ea ec es si st sa sc sd N W0 (hE.below (HB0.out.mono hN)) (hD.below (HB0.out.mono hN)) hNW hz
  by_cases hk : ckM4 fr to tm ix lt cm hi cx rj es.length si st sd.length = 0
  case neg =>
    rw [if_neg hk]
    generalize ckM4 fr to tm ix lt cm hi cx rj es.length si st sd.length = ke at *
    have hke : ((ke : Int) != 0) = true := by simp; omega
    go_enter Try.func48, Try.ntmps48
    go_wp2_with (go_at_call 50; rw [HW0.out]; refine hck.mono ?_; rintro e w1 ⟨rfl, hB1⟩)
    go_ret2
    exact ⟨_, rfl, Sl.nil _ _, HB0.out.trans (hB1.mono HB0.out.size)⟩
  rw [if_pos hk]
  obtain ⟨kfr, kto, ktm, kix, klt, kcm, khi, kcx⟩ := ckM4_ok hk
  have k0 : isNumB 4 = true := by decide
  rw [hk] at hck
  have HEE : Hid (EntsAt N W0 ea es) := hE.below (HB0.out.mono hN)
  have HSD : Hid (Sl N W0 (.slice sa sd.length sc) sd) := hD.below (HB0.out.mono hN)
  clear hE hD
  go_enter Try.func48, Try.ntmps48
  go_wp2_with (go_at_call 50; rw [HW0.out]; refine hck.mono ?_; rintro e w1 ⟨rfl, hB1⟩; obtain ⟨⟨q0, q1, q2, q3, q4, q5, q6, q7, q8, q9, q10, q11, q12, q13⟩, -⟩ := cells14 (HX.out _ hB1); have h2 := newV (w := w1); obtain ⟨⟨q0, q1, q2, q3, q4, q5, q6, q7, q8, q9, q10, q11, q12, q13⟩, -⟩ := cells14 (HX.out _ (hB1.trans (h2.bel.mono hB1.size))))
  refine (wvInt_any 4 h2 (by first | omega | (simp <;> omega)) k0).mono ?_
  rintro r w3 ⟨rfl, h3⟩
  obtain ⟨⟨q0, q1, q2, q3, q4, q5, q6, q7, q8, q9, q10, q11, q12, q13⟩, -⟩ := cells14 (HX.out _ (hB1.trans (h3.bel.mono hB1.size)))
  go_wp2_with fail
  refine (wvInt_any fr h3 (by first | omega | (simp <;> omega)) kfr).mono ?_
  rintro r w4 ⟨rfl, h4⟩
  obtain ⟨⟨q0, q1, q2, q3, q4, q5, q6, q7, q8, q9, q10, q11, q12, q13⟩, -⟩ := cells14 (HX.out _ (hB1.trans (h4.bel.mono hB1.size)))
  go_wp2_with fail
  refine (wvInt_any to h4 (by first | omega | (simp <;> omega)) kto).mono ?_
  rintro r w5 ⟨rfl, h5⟩
  obtain ⟨⟨q0, q1, q2, q3, q4, q5, q6, q7, q8, q9, q10, q11, q12, q13⟩, -⟩ := cells14 (HX.out _ (hB1.trans (h5.bel.mono hB1.size)))
  go_wp2_with fail
  refine (wvInt_any tm h5 (by first | omega | (simp <;> omega)) ktm).mono ?_
  rintro r w6 ⟨rfl, h6⟩
  obtain ⟨⟨q0, q1, q2, q3, q4, q5, q6, q7, q8, q9, q10, q11, q12, q13⟩, -⟩ := cells14 (HX.out _ (hB1.trans (h6.bel.mono hB1.size)))
  go_wp2_with fail
  refine (wvInt_any ix h6 (by first | omega | (simp <;> omega)) kix).mono ?_
  rintro r w7 ⟨rfl, h7⟩
  obtain ⟨⟨q0, q1, q2, q3, q4, q5, q6, q7, q8, q9, q10, q11, q12, q13⟩, -⟩ := cells14 (HX.out _ (hB1.trans (h7.bel.mono hB1.size)))
  go_wp2_with fail
  refine (wvBoolN_any rj h7 (by first | omega | (simp <;> omega))).mono ?_
  rintro r w8 ⟨rfl, h8⟩
  obtain ⟨⟨q0, q1, q2, q3, q4, q5, q6, q7, q8, q9, q10, q11, q12, q13⟩, -⟩ := cells14 (HX.out _ (hB1.trans (h8.bel.mono hB1.size)))
  go_wp2_with fail
  refine (wvInt_any hi h8 (by first | omega | (simp <;> omega)) khi).mono ?_
  rintro r w9 ⟨rfl, h9⟩
  obtain ⟨⟨q0, q1, q2, q3, q4, q5, q6, q7, q8, q9, q10, q11, q12, q13⟩, -⟩ := cells14 (HX.out _ (hB1.trans (h9.bel.mono hB1.size)))
  go_wp2_with fail
  refine (wvDone_any h9).mono ?_
  rintro r w9 ⟨u, rfl, hO9, hB9⟩
  go_wp2
  go_ret2
  refine ⟨u, by rw [hk]; rfl, ?_, HB0.out.trans ((hB1.trans (hB9.mono hB1.size)).mono HB0.out.size)⟩
  simpa [txM4, numB] using hO9

end Go.Proofs.Ytfnnbfgfmbiabaa

