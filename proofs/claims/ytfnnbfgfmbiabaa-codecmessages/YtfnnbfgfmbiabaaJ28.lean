/-
  RefC3; PutV; RefP3.
-/
import Derived.Test.YtfnnbfgfmbiabaaJ21
import Derived.Test.YtfnnbfgfmbiabaaJ22
import Derived.Test.YtfnnbfgfmbiabaaJ23
import Derived.Test.YtfnnbfgfmbiabaaJ14
import Derived.Test.YtfnnbfgfmbiabaaJ15
import Derived.Test.YtfnnbfgfmbiabaaJ16
/-
  The document's check of messages, kind 3.
-/
namespace Go.Proofs.Ytfnnbfgfmbiabaa
open Go.RowKit Go.Shelf

set_option linter.unusedVariables false

theorem blankR3 (fr to tm ix lt cm hi cx : Int) (rj : Bool) (ea : Option Addr) (ec : Nat) (es : List Ent) (si st : Int) (sa : Option Addr) (sc : Nat) (sd : List UInt8) : ((((3 : Int) == 3) && (fr == fr) && (to == to) && (tm == tm)) && (decide (sd = []) && (si == 0) && (st == 0)) && decide (saysOf es = saysOf es) && (ix == ix) && (lt == lt) && (cm == cm) && (hi == 0) && (cx == 0) && (rj == false)) = blank 0 0 0 hi cx rj 0 si st sd.length := by
  rw [Bool.eq_iff_iff]
  simp [blank, saysOf]
  try (constructor <;> rintro h <;> simp_all)

set_option maxRecDepth 100000 in
set_option maxHeartbeats 8000000 in
theorem refChkM3_any (fr to tm ix lt cm hi cx : Int) (rj : Bool) (ea : Option Addr) (ec : Nat) (es : List Ent) (si st : Int) (sa : Option Addr) (sc : Nat) (sd : List UInt8) (N : Nat) (w : World) (hE : EntsAt N w ea es) (hD : Sl N w (.slice sa sd.length sc) sd) (hN : N ≤ w.heap.size) (hz : es.length ≤ 1000000) : Calls Try.prog 50 #[.agg #[.int .i64 3, .int .i64 fr, .int .i64 to, .int .i64 tm, .int .i64 ix, .int .i64 lt, .int .i64 cm, .int .i64 hi, .int .i64 cx, .bool rj, .slice ea es.length ec, .int .i64 si, .int .i64 st, .slice sa sd.length sc]] w fun e w' => e = .returned (.int .i64 (ckM3 fr to tm ix lt cm hi cx rj es si st sd.length : Int)) ∧ Below w.heap.size w w' := by
  have inK : isIn 3 1 7 = true := by decide
  unfold ckM3
  by_cases hR : msgRange fr to tm ix lt cm hi cx = true
  case neg =>
    simp only [Bool.not_eq_true] at hR
    rw [if_pos hR]
    exact refRangeNo_any 3 fr to tm ix lt cm hi cx rj ea es.length ec si st sa sd.length sc w inK hR
  rw [if_neg (by simp [hR])]
  have hR' := hR
  unfold msgRange at hR'
  simp only [Bool.and_eq_true] at hR'
  obtain ⟨⟨⟨⟨⟨⟨⟨g0, g1⟩, g2⟩, g3⟩, g4⟩, g5⟩, g6⟩, g7⟩ := hR'
  obtain ⟨W0, hW0⟩ : ∃ W0, w.alloc (.cells #[.int .i64 3, .int .i64 fr, .int .i64 to, .int .i64 tm, .int .i64 ix, .int .i64 lt, .int .i64 cm, .int .i64 hi, .int .i64 cx, .bool rj, .slice ea es.length ec, .int .i64 si, .int .i64 st, .slice sa sd.length sc] 95) = W0 := ⟨_, rfl⟩
  have HW0 : Hid (w.alloc (.cells #[.int .i64 3, .int .i64 fr, .int .i64 to, .int .i64 tm, .int .i64 ix, .int .i64 lt, .int .i64 cm, .int .i64 hi, .int .i64 cx, .bool rj, .slice ea es.length ec, .int .i64 si, .int .i64 st, .slice sa sd.length sc] 95) = W0) := hW0
  have HB0 : Hid (Below w.heap.size w W0) := by show Below w.heap.size w W0; rw [← hW0]; exact (Below.refl _ w).alloc (by simp) _
  have HX : Hid (∀ w', Below W0.heap.size W0 w' → w'.heap[w.heap.size]? = some (.cells #[.int .i64 3, .int .i64 fr, .int .i64 to, .int .i64 tm, .int .i64 ix, .int .i64 lt, .int .i64 cm, .int .i64 hi, .int .i64 cx, .bool rj, .slice ea es.length ec, .int .i64 si, .int .i64 st, .slice sa sd.length sc] 95 (0, 0))) := fun w' hB => by
    refine (hB.block _ (by rw [← hW0]; simp)).trans ?_
    rw [← hW0]; exact World.alloc_heap_new w _
  have HS0 : Hid (W0.heap.size = w.heap.size + 1) := by show W0.heap.size = _; rw [← hW0]; simp
  clear hW0
  have HEE : Hid (EntsAt N W0 ea es) := hE.below (HB0.out.mono hN)
  have HSD : Hid (Sl N W0 (.slice sa sd.length sc) sd) := hD.below (HB0.out.mono hN)
  have hNW : N ≤ W0.heap.size := by have := HS0.out; omega
  clear hE hD
  obtain ⟨bl, hbl⟩ : ∃ bl, blank 0 0 0 hi cx rj 0 si st sd.length = bl := ⟨_, rfl⟩
  rw [hbl]
  have HSM : Hid (∀ w1, Below W0.heap.size W0 w1 → Calls Try.prog 53 #[.agg #[.int .i64 3, .int .i64 fr, .int .i64 to, .int .i64 tm, .int .i64 ix, .int .i64 lt, .int .i64 cm, .int .i64 hi, .int .i64 cx, .bool rj, .slice ea es.length ec, .int .i64 si, .int .i64 st, .slice sa sd.length sc], .agg #[.int .i64 3, .int .i64 fr, .int .i64 to, .int .i64 tm, .int .i64 ix, .int .i64 lt, .int .i64 cm, .int .i64 0, .int .i64 0, .bool false, .slice ea es.length ec, .int .i64 0, .int .i64 0, .slice none 0 0]] w1 fun e w' => e = .returned (.bool bl) ∧ Below w1.heap.size w1 w') := fun w1 hB1 => by
    have hS := sameMsg_any 3 fr to tm ix lt cm hi cx rj ea ec es si st sa sc sd 3 fr to tm ix lt cm 0 0 false ea ec es 0 0 none 0 [] N w1 (HEE.out.below (hB1.mono hNW)) (HEE.out.below (hB1.mono hNW)) (HSD.out.below (hB1.mono hNW)) (Sl.nil _ _) (by have := hB1.size; omega) hz
    rw [(blankR3 fr to tm ix lt cm hi cx rj ea ec es si st sa sc sd).trans hbl] at hS
    exact hS
  clear hbl
  obtain ⟨E, HE⟩ : ∃ E : Nat, Hid ((if fr = to then 4 else if bl = false then 4 else ckApp tm ix lt es) = E) := ⟨_, rfl⟩
  rw [HE.out]
  go_enter Try.func50, Try.ntmps50
  go_wp2_with (first
    | (go_at_call 62; refine (refWithin_any _ _ _ _).mono ?_; rintro e w' ⟨rfl, hw⟩; subst w'; simp only [inK, g0, g1, g2])
    | (go_at_call 91; refine (number_any _ _).mono ?_; rintro e w' ⟨rfl, hw⟩; subst w'; simp only [g3, g4, g5, g6, g7]))
  rw [HW0.out]
  obtain ⟨⟨q0, q1, q2, q3, q4, q5, q6, q7, q8, q9, q10, q11, q12, q13⟩, -⟩ := cells14 (HX.out _ (Below.refl _ _))
  have hlw0 : w.heap.size < W0.heap.size := by have := HS0.out; omega
  go_region_held3 (fun w' => w'.cell? ⟨w.heap.size, 0, none⟩ = some (.int .i64 3) ∧ w'.cell? ⟨w.heap.size, 1, none⟩ = some (.int .i64 fr) ∧ w'.cell? ⟨w.heap.size, 2, none⟩ = some (.int .i64 to) ∧ w'.cell? ⟨w.heap.size, 3, none⟩ = some (.int .i64 tm) ∧ w'.cell? ⟨w.heap.size, 4, none⟩ = some (.int .i64 ix) ∧ w'.cell? ⟨w.heap.size, 5, none⟩ = some (.int .i64 lt) ∧ w'.cell? ⟨w.heap.size, 6, none⟩ = some (.int .i64 cm) ∧ w'.cell? ⟨w.heap.size, 7, none⟩ = some (.int .i64 hi) ∧ w'.cell? ⟨w.heap.size, 8, none⟩ = some (.int .i64 cx) ∧ w'.cell? ⟨w.heap.size, 9, none⟩ = some (.bool rj) ∧ w'.cell? ⟨w.heap.size, 10, none⟩ = some (.slice ea es.length ec) ∧ w'.cell? ⟨w.heap.size, 11, none⟩ = some (.int .i64 si) ∧ w'.cell? ⟨w.heap.size, 12, none⟩ = some (.int .i64 st) ∧ w'.cell? ⟨w.heap.size, 13, none⟩ = some (.slice sa sd.length sc)) (go_keep)
    (first
      | (go_at_call 92; refine (used3_any _ _ _ _ _ _ _ _ _ _ _ _ _ _ _ _ _ _).mono ?_; rintro e w1 ⟨rfl, hB1d⟩; have hB1 : Below W0.heap.size W0 w1 := ⟨hB1d.os, hB1d.tape, hB1d.output, hB1d.size, hB1d.block⟩; obtain ⟨⟨q0, q1, q2, q3, q4, q5, q6, q7, q8, q9, q10, q11, q12, q13⟩, -⟩ := cells14 (HX.out _ hB1))
      | (go_at_call 53; refine (HSM.out _ hB1).mono ?_; rintro e w2 ⟨rfl, hB2⟩; have hB2' := hB1.trans (hB2.mono hB1.size); obtain ⟨⟨q0, q1, q2, q3, q4, q5, q6, q7, q8, q9, q10, q11, q12, q13⟩, -⟩ := cells14 (HX.out _ hB2')))
  have hlw2 : w.heap.size < w2.heap.size := by have := hB2'.size; have := HS0.out; omega
  clear HSM
  by_cases hE : fr = to
  case pos =>
    obtain rfl : E = 4 := by rw [← HE.out, if_pos hE]
    clear HE
    subst hE
    go_wp2
    go_returns
    exact ⟨rfl, HB0.out.trans (hB2'.mono HB0.out.size)⟩
  have hE' : (fr == to) = false := by simpa using hE
  cases bl
  case false =>
    obtain rfl : E = 4 := by rw [← HE.out, if_neg hE, if_pos rfl]
    clear HE
    go_wp2
    go_returns
    exact ⟨rfl, HB0.out.trans (hB2'.mono HB0.out.size)⟩
  have hT : ckApp tm ix lt es = E := by have := HE.out; rw [if_neg hE, if_neg (by simp)] at this; exact this
  clear HE
  have HT : Hid (ckApp tm ix lt es = E) := hT
  clear hT
  have hix : 0 ≤ ix ∧ ix ≤ 4611686018427387904 := by
    have := (msgRange_ok hR).2.2.2.1
    simpa [isNumB] using this
  go_wp2_with fail
  refine (refApp_any fr to tm ix lt cm hi cx rj ea ec es si st sa sd.length sc w2 N (HEE.out.below (hB2'.mono hNW)) (by have := hB2'.size; omega) hix).mono ?_
  rintro e w3 ⟨rfl, hB3⟩
  go_wp2
  go_returns
  exact ⟨by rw [← HT.out]; rfl, HB0.out.trans ((hB2'.trans (hB3.mono hB2'.size)).mono HB0.out.size)⟩

end Go.Proofs.Ytfnnbfgfmbiabaa

/-
  The document's puts, their bytes in new memory.
-/
namespace Go.Proofs.Ytfnnbfgfmbiabaa
open Go.RowKit Go.Shelf

set_option maxRecDepth 100000 in
set_option maxHeartbeats 8000000 in
theorem wvDoneO_any {w0 w : World} {l : List UInt8} (h : Wv w0 w l) :
    Calls Try.prog 60 #[.pointer (some ⟨w0.heap.size, 0, none⟩)] w fun r w' => ∃ u, r = .returned (.tuple #[u, .int .i64 0]) ∧ Ow w0.heap.size w' u l ∧ Below w0.heap.size w0 w' := by
  obtain ⟨⟨v, h⟩, hB⟩ := h
  obtain ⟨k0, k1, f0, f1⟩ := h.cells
  have hO := h.ow
  obtain ⟨b, c, rfl, -, -⟩ := h.ow.shape
  clear h
  go_enter Try.func60, Try.ntmps60
  go_wp2
  go_ret2
  exact ⟨_, rfl, hO, hB⟩

/-- Bytes of new memory put by the document's writer. -/
theorem wvBytesO_any (most : Int) {w0 w : World} {l m : List UInt8} {x : Value} {N : Nat} (h : Wv w0 w l) (hl : l.length ≤ 1073740824) {w' : World} (hB : Below w.heap.size w w') (hm : m.length ≤ 1073741824) (hx : Ow N w' x m) (hN : w.heap.size ≤ N) (hmost : (m.length : Int) ≤ most) :
    Calls Try.prog 59 #[.pointer (some ⟨w0.heap.size, 0, none⟩), x, .int .i64 most] w' fun r w' => r = .returned (.tuple #[]) ∧ Wv w0 w' (l ++ (numB m.length ++ m)) := by
  obtain ⟨⟨v, hW⟩, hb⟩ := h
  have hlt := hW.lt
  have hW2 := hW.below hB (Nat.le_refl _)
  have hb2 : Below w0.heap.size w0 w' := hb.trans (hB.mono hb.size)
  have hx' := hx.sl (Nat.le_refl w'.heap.size)
  refine (vvBytes_any _ _ w'.heap.size v x l m 0 most w' hW2 hl hm hx' (Nat.le_refl _) (fun _ => ⟨fun e => ?_, fun k hk e => ?_⟩)).mono ?_
  · have := (World.ownsRow.lt hx _ e).1
    omega
  · have h1 := (World.ownsRow.lt hx _ hk).1
    have h2 := (World.ownsRow.lt hW.ow _ e).2
    omega
  rintro r w'' ⟨rfl, v', hW', hT, -⟩
  rw [vBytes_ok l m most hmost] at hW'
  exact ⟨rfl, ⟨v', hW'⟩, Tn.bel hW2 hb2 hT⟩

set_option maxRecDepth 100000 in
set_option maxHeartbeats 2000000 in
theorem refPutEntryO_any (t i k : Int) (m : List UInt8) (a : Option Addr) (cap : Nat) (w : World) (M : Nat) (hx : Sl M w (.slice a m.length cap) m) (hM : M ≤ w.heap.size) : Calls Try.prog 11 #[.agg #[.int .i64 t, .int .i64 i, .int .i64 k, .slice a m.length cap]] w fun r w' =>
    ∃ u, r = .returned (.tuple #[u, .int .i64 (ckEntry t i k m.length : Int)]) ∧ Ow w.heap.size w' u (if ckEntry t i k m.length = 0 then txEntry t i k m else []) ∧ Below w.heap.size w w' := by
  have hbt := numB_len t.toNat
  have hbi := numB_len i.toNat
  have hbk := numB_len k.toNat
  have hbm := numB_len m.length
  obtain ⟨W0, hW0⟩ : ∃ W0, (w.alloc (.cells #[.int .i64 t, .int .i64 i, .int .i64 k, .slice a m.length cap] 24)) = W0 := ⟨_, rfl⟩
  have HW0 : Hid ((w.alloc (.cells #[.int .i64 t, .int .i64 i, .int .i64 k, .slice a m.length cap] 24)) = W0) := hW0
  have HB0 : Hid (Below w.heap.size w W0) := by show Below w.heap.size w W0; rw [← hW0]; exact ((Below.refl _ w).alloc (by simp) _)
  have HQ : Hid (∀ w', Below W0.heap.size W0 w' → w'.cell? ⟨w.heap.size, 0, none⟩ = some (.int .i64 t) ∧ w'.cell? ⟨w.heap.size, 1, none⟩ = some (.int .i64 i) ∧ w'.cell? ⟨w.heap.size, 2, none⟩ = some (.int .i64 k) ∧ w'.cell? ⟨w.heap.size, 3, none⟩ = some (.slice a m.length cap)) := fun w' hB => by
    have hlt : w.heap.size < W0.heap.size := by rw [← hW0]; simp
    have hh : W0.heap[w.heap.size]? = some (.cells #[.int .i64 t, .int .i64 i, .int .i64 k, .slice a m.length cap] 24 (0, 0)) := by
      rw [← hW0]; exact World.alloc_heap_new w _
    have h2 := (hB.block _ hlt).trans hh
    refine ⟨?_, ?_, ?_, ?_⟩ <;> (simp only [World.cell?, h2]; rfl)
  clear hW0
  by_cases hk : ckEntry t i k m.length = 0
  · rw [if_pos hk]
    obtain ⟨kt, ki, kk, km⟩ := ckEntry_ok hk
    have hm30 : m.length ≤ 1073741824 := by omega
    have hx0 := hx.below (HB0.out.mono hM)
    have hM0 : M ≤ W0.heap.size := by have := HB0.out.size; omega
    go_enter Try.func11, Try.ntmps11
    go_wp2_with (go_at_call 15; refine (refCkEntry_any t i k a m.length cap _).mono ?_; rintro e w1 ⟨rfl, hB1⟩; rw [HW0.out] at hB1; obtain ⟨q0, q1, q2, q3⟩ := HQ.out w1 hB1; have h2 := newV (w := w1); obtain ⟨q0, q1, q2, q3⟩ := HQ.out _ (hB1.trans (h2.bel.mono hB1.size)))
    have hx1 := hx0.below (hB1.mono hM0)
    have hM1 : M ≤ w1.heap.size := by have := hB1.size; omega
    clear hx hx0
    go_wp2_with fail
    refine (wvInt_any t h2 (by simp <;> omega) kt).mono ?_
    rintro r w3 ⟨rfl, h3⟩
    obtain ⟨q0, q1, q2, q3⟩ := HQ.out w3 (hB1.trans (h3.bel.mono hB1.size))
    go_wp2_with fail
    refine (wvInt_any i h3 (by simp <;> omega) ki).mono ?_
    rintro r w4 ⟨rfl, h4⟩
    obtain ⟨q0, q1, q2, q3⟩ := HQ.out w4 (hB1.trans (h4.bel.mono hB1.size))
    go_wp2_with fail
    refine (wvInt_any k h4 (by simp <;> omega) kk).mono ?_
    rintro r w5 ⟨rfl, h5⟩
    obtain ⟨q0, q1, q2, q3⟩ := HQ.out w5 (hB1.trans (h5.bel.mono hB1.size))
    go_wp2_with fail
    refine (wvBytes_any 4096 h5 (by simp <;> omega) (by omega) hx1 hM1 km).mono ?_
    rintro r w6 ⟨rfl, h6⟩
    obtain ⟨q0, q1, q2, q3⟩ := HQ.out w6 (hB1.trans (h6.bel.mono hB1.size))
    go_wp2_with fail
    refine (wvDoneO_any h6).mono ?_
    rintro r w9 ⟨u, rfl, hO9, hB9⟩
    go_wp2
    go_ret2
    refine ⟨u, by rw [hk]; rfl, ?_, HB0.out.trans ((hB1.trans (hB9.mono hB1.size)).mono HB0.out.size)⟩
    have hO := hO9.base (N' := w.heap.size) (by have := hB1.size; have := HB0.out.size; omega)
    simpa [txEntry, numB] using hO
  · rw [if_neg hk]
    have ck1 := fun w' => refCkEntry_any t i k a m.length cap w'
    generalize ckEntry t i k m.length = ke at *
    have hke : ((ke : Int) != 0) = true := by simp; omega
    go_enter Try.func11, Try.ntmps11
    go_wp2_with (go_at_call 15; refine (ck1 _).mono ?_; rintro e w1 ⟨rfl, hB1⟩; rw [HW0.out] at hB1)
    go_ret2
    exact ⟨_, rfl, Ow.nil _ _, HB0.out.trans (hB1.mono HB0.out.size)⟩

set_option maxRecDepth 100000 in
set_option maxHeartbeats 2000000 in
theorem refPutSnapO_any (i t : Int) (m : List UInt8) (a : Option Addr) (cap : Nat) (w : World) (M : Nat) (hx : Sl M w (.slice a m.length cap) m) (hM : M ≤ w.heap.size) : Calls Try.prog 28 #[.agg #[.int .i64 i, .int .i64 t, .slice a m.length cap]] w fun r w' =>
    ∃ u, r = .returned (.tuple #[u, .int .i64 (ckSnap i t m.length : Int)]) ∧ Ow w.heap.size w' u (if ckSnap i t m.length = 0 then txSnap i t m else []) ∧ Below w.heap.size w w' := by
  have hbi := numB_len i.toNat
  have hbt := numB_len t.toNat
  have hbm := numB_len m.length
  obtain ⟨W0, hW0⟩ : ∃ W0, (w.alloc (.cells #[.int .i64 i, .int .i64 t, .slice a m.length cap] 57)) = W0 := ⟨_, rfl⟩
  have HW0 : Hid ((w.alloc (.cells #[.int .i64 i, .int .i64 t, .slice a m.length cap] 57)) = W0) := hW0
  have HB0 : Hid (Below w.heap.size w W0) := by show Below w.heap.size w W0; rw [← hW0]; exact ((Below.refl _ w).alloc (by simp) _)
  have HQ : Hid (∀ w', Below W0.heap.size W0 w' → w'.cell? ⟨w.heap.size, 0, none⟩ = some (.int .i64 i) ∧ w'.cell? ⟨w.heap.size, 1, none⟩ = some (.int .i64 t) ∧ w'.cell? ⟨w.heap.size, 2, none⟩ = some (.slice a m.length cap)) := fun w' hB => by
    have hlt : w.heap.size < W0.heap.size := by rw [← hW0]; simp
    have hh : W0.heap[w.heap.size]? = some (.cells #[.int .i64 i, .int .i64 t, .slice a m.length cap] 57 (0, 0)) := by
      rw [← hW0]; exact World.alloc_heap_new w _
    have h2 := (hB.block _ hlt).trans hh
    refine ⟨?_, ?_, ?_⟩ <;> (simp only [World.cell?, h2]; rfl)
  clear hW0
  by_cases hk : ckSnap i t m.length = 0
  · rw [if_pos hk]
    obtain ⟨ki, kt, km⟩ := ckSnap_ok hk
    have hm30 : m.length ≤ 1073741824 := by omega
    have hx0 := hx.below (HB0.out.mono hM)
    have hM0 : M ≤ W0.heap.size := by have := HB0.out.size; omega
    go_enter Try.func28, Try.ntmps28
    go_wp2_with (go_at_call 30; refine (refCkSnap_any i t a m.length cap _).mono ?_; rintro e w1 ⟨rfl, hB1⟩; rw [HW0.out] at hB1; obtain ⟨q0, q1, q2⟩ := HQ.out w1 hB1; have h2 := newV (w := w1); obtain ⟨q0, q1, q2⟩ := HQ.out _ (hB1.trans (h2.bel.mono hB1.size)))
    have hx1 := hx0.below (hB1.mono hM0)
    have hM1 : M ≤ w1.heap.size := by have := hB1.size; omega
    clear hx hx0
    go_wp2_with fail
    refine (wvInt_any i h2 (by simp <;> omega) ki).mono ?_
    rintro r w3 ⟨rfl, h3⟩
    obtain ⟨q0, q1, q2⟩ := HQ.out w3 (hB1.trans (h3.bel.mono hB1.size))
    go_wp2_with fail
    refine (wvInt_any t h3 (by simp <;> omega) kt).mono ?_
    rintro r w4 ⟨rfl, h4⟩
    obtain ⟨q0, q1, q2⟩ := HQ.out w4 (hB1.trans (h4.bel.mono hB1.size))
    go_wp2_with fail
    refine (wvBytes_any 524288 h4 (by simp <;> omega) (by omega) hx1 hM1 km).mono ?_
    rintro r w5 ⟨rfl, h5⟩
    obtain ⟨q0, q1, q2⟩ := HQ.out w5 (hB1.trans (h5.bel.mono hB1.size))
    go_wp2_with fail
    refine (wvDoneO_any h5).mono ?_
    rintro r w9 ⟨u, rfl, hO9, hB9⟩
    go_wp2
    go_ret2
    refine ⟨u, by rw [hk]; rfl, ?_, HB0.out.trans ((hB1.trans (hB9.mono hB1.size)).mono HB0.out.size)⟩
    have hO := hO9.base (N' := w.heap.size) (by have := hB1.size; have := HB0.out.size; omega)
    simpa [txSnap, numB] using hO
  · rw [if_neg hk]
    have ck1 := fun w' => refCkSnap_any i t a m.length cap w'
    generalize ckSnap i t m.length = ke at *
    have hke : ((ke : Int) != 0) = true := by simp; omega
    go_enter Try.func28, Try.ntmps28
    go_wp2_with (go_at_call 30; refine (ck1 _).mono ?_; rintro e w1 ⟨rfl, hB1⟩; rw [HW0.out] at hB1)
    go_ret2
    exact ⟨_, rfl, Ow.nil _ _, HB0.out.trans (hB1.mono HB0.out.size)⟩

end Go.Proofs.Ytfnnbfgfmbiabaa

/-
  The document's put of messages, kind 3.
-/
namespace Go.Proofs.Ytfnnbfgfmbiabaa
open Go.RowKit Go.Shelf

set_option linter.unusedVariables false

set_option maxRecDepth 100000 in
set_option maxHeartbeats 8000000 in
theorem refPutM3_any (fr to tm ix lt cm hi cx : Int) (rj : Bool) (ea : Option Addr) (ec : Nat) (es : List Ent) (si st : Int) (sa : Option Addr) (sc : Nat) (sd : List UInt8) (N : Nat) (w : World) (hE : EntsAt N w ea es) (hD : Sl N w (.slice sa sd.length sc) sd) (hN : N ≤ w.heap.size) (hz : es.length ≤ 1000000) : Calls Try.prog 48 #[.agg #[.int .i64 3, .int .i64 fr, .int .i64 to, .int .i64 tm, .int .i64 ix, .int .i64 lt, .int .i64 cm, .int .i64 hi, .int .i64 cx, .bool rj, .slice ea es.length ec, .int .i64 si, .int .i64 st, .slice sa sd.length sc]] w fun r w' =>
    ∃ u, r = .returned (.tuple #[u, .int .i64 (ckM3 fr to tm ix lt cm hi cx rj es si st sd.length : Int)]) ∧ Sl w'.heap.size w' u (if ckM3 fr to tm ix lt cm hi cx rj es si st sd.length = 0 then numB 3 ++ numB fr.toNat ++ numB to.toNat ++ numB tm.toNat ++ (numB ix.toNat ++ (numB lt.toNat ++ (numB cm.toNat ++ (numB es.length ++ packs es)))) else []) ∧ Below w.heap.size w w' := by
  have hbfr := numB_len fr.toNat
  have hbto := numB_len to.toNat
  have hbtm := numB_len tm.toNat
  have hbix := numB_len ix.toNat
  have hblt := numB_len lt.toNat
  have hbcm := numB_len cm.toNat
  have hbhi := numB_len hi.toNat
  have hbcx := numB_len cx.toNat
  have hbrj := numB_len (bN rj)
  have hb0 := numB_len 3
  obtain ⟨W0, hW0⟩ : ∃ W0, w.alloc (.cells #[.int .i64 3, .int .i64 fr, .int .i64 to, .int .i64 tm, .int .i64 ix, .int .i64 lt, .int .i64 cm, .int .i64 hi, .int .i64 cx, .bool rj, .slice ea es.length ec, .int .i64 si, .int .i64 st, .slice sa sd.length sc] 95) = W0 := ⟨_, rfl⟩
  have HW0 : Hid (w.alloc (.cells #[.int .i64 3, .int .i64 fr, .int .i64 to, .int .i64 tm, .int .i64 ix, .int .i64 lt, .int .i64 cm, .int .i64 hi, .int .i64 cx, .bool rj, .slice ea es.length ec, .int .i64 si, .int .i64 st, .slice sa sd.length sc] 95) = W0) := hW0
  have HB0 : Hid (Below w.heap.size w W0) := by show Below w.heap.size w W0; rw [← hW0]; exact (Below.refl _ w).alloc (by simp) _
  have HX : Hid (∀ w', Below W0.heap.size W0 w' → w'.heap[w.heap.size]? = some (.cells #[.int .i64 3, .int .i64 fr, .int .i64 to, .int .i64 tm, .int .i64 ix, .int .i64 lt, .int .i64 cm, .int .i64 hi, .int .i64 cx, .bool rj, .slice ea es.length ec, .int .i64 si, .int .i64 st, .slice sa sd.length sc] 95 (0, 0))) := fun w' hB => by
    refine (hB.block _ (by rw [← hW0]; simp)).trans ?_
    rw [← hW0]; exact World.alloc_heap_new w _
  have HS0 : Hid (W0.heap.size = w.heap.size + 1) := by show W0.heap.size = _; rw [← hW0]; simp
  clear hW0
  have hNW : N ≤ W0.heap.size := by have := HS0.out; omega
  have hck := refChkM3_any fr to tm ix lt cm hi cx rj ea ec es si st sa sc sd N W0 (hE.below (HB0.out.mono hN)) (hD.below (HB0.out.mono hN)) hNW hz
  by_cases hk : ckM3 fr to tm ix lt cm hi cx rj es si st sd.length = 0
  case neg =>
    rw [if_neg hk]
    generalize ckM3 fr to tm ix lt cm hi cx rj es si st sd.length = ke at *
    have hke : ((ke : Int) != 0) = true := by simp; omega
    go_enter Try.func48, Try.ntmps48
    go_wp2_with (go_at_call 50; rw [HW0.out]; refine hck.mono ?_; rintro e w1 ⟨rfl, hB1⟩)
    go_ret2
    exact ⟨_, rfl, Sl.nil _ _, HB0.out.trans (hB1.mono HB0.out.size)⟩
  rw [if_pos hk]
  obtain ⟨kfr, kto, ktm, kix, klt, kcm, khi, kcx⟩ := ckM3_ok hk
  have k0 : isNumB 3 = true := by decide
  obtain ⟨hn64, hf0⟩ := ckM3_app hk
  have HA : Hid (∀ e ∈ es, e.ck = 0) := firstErr_all hf0
  have hben := numB_len es.length
  have hpk := packs_len HA.out
  have kes : isNumB (es.length : Int) = true := by simp [isNumB]; omega
  rw [hk] at hck
  have HEE : Hid (EntsAt N W0 ea es) := hE.below (HB0.out.mono hN)
  have HSD : Hid (Sl N W0 (.slice sa sd.length sc) sd) := hD.below (HB0.out.mono hN)
  clear hE hD
  go_enter Try.func48, Try.ntmps48
  go_wp2_with (go_at_call 50; rw [HW0.out]; refine hck.mono ?_; rintro e w1 ⟨rfl, hB1⟩; obtain ⟨⟨q0, q1, q2, q3, q4, q5, q6, q7, q8, q9, q10, q11, q12, q13⟩, -⟩ := cells14 (HX.out _ hB1); have h2 := newV (w := w1); obtain ⟨⟨q0, q1, q2, q3, q4, q5, q6, q7, q8, q9, q10, q11, q12, q13⟩, -⟩ := cells14 (HX.out _ (hB1.trans (h2.bel.mono hB1.size))))
  refine (wvInt_any 3 h2 (by first | omega | (simp <;> omega)) k0).mono ?_
  rintro r w3 ⟨rfl, h3⟩
  obtain ⟨⟨q0, q1, q2, q3, q4, q5, q6, q7, q8, q9, q10, q11, q12, q13⟩, -⟩ := cells14 (HX.out _ (hB1.trans (h3.bel.mono hB1.size)))
  go_wp2_with fail
  refine (wvInt_any fr h3 (by first | omega | (simp <;> omega)) kfr).mono ?_
  rintro r w4 ⟨rfl, h4⟩
  obtain ⟨⟨q0, q1, q2, q3, q4, q5, q6, q7, q8, q9, q10, q11, q12, q13⟩, -⟩ := cells14 (HX.out _ (hB1.trans (h4.bel.mono hB1.size)))
  go_wp2_with fail
  refine (wvInt_any to h4 (by first | omega | (simp <;> omega)) kto).mono ?_
  rintro r w5 ⟨rfl, h5⟩
  obtain ⟨⟨q0, q1, q2, q3, q4, q5, q6, q7, q8, q9, q10, q11, q12, q13⟩, -⟩ := cells14 (HX.out _ (hB1.trans (h5.bel.mono hB1.size)))
  go_wp2_with fail
  refine (wvInt_any tm h5 (by first | omega | (simp <;> omega)) ktm).mono ?_
  rintro r w6 ⟨rfl, h6⟩
  obtain ⟨⟨q0, q1, q2, q3, q4, q5, q6, q7, q8, q9, q10, q11, q12, q13⟩, -⟩ := cells14 (HX.out _ (hB1.trans (h6.bel.mono hB1.size)))
  go_wp2_with fail
  refine (wvInt_any ix h6 (by first | omega | (simp <;> omega)) kix).mono ?_
  rintro r w7 ⟨rfl, h7⟩
  obtain ⟨⟨q0, q1, q2, q3, q4, q5, q6, q7, q8, q9, q10, q11, q12, q13⟩, -⟩ := cells14 (HX.out _ (hB1.trans (h7.bel.mono hB1.size)))
  go_wp2_with fail
  refine (wvInt_any lt h7 (by first | omega | (simp <;> omega)) klt).mono ?_
  rintro r w8 ⟨rfl, h8⟩
  obtain ⟨⟨q0, q1, q2, q3, q4, q5, q6, q7, q8, q9, q10, q11, q12, q13⟩, -⟩ := cells14 (HX.out _ (hB1.trans (h8.bel.mono hB1.size)))
  go_wp2_with fail
  refine (wvInt_any cm h8 (by first | omega | (simp <;> omega)) kcm).mono ?_
  rintro r w9 ⟨rfl, h9⟩
  obtain ⟨⟨q0, q1, q2, q3, q4, q5, q6, q7, q8, q9, q10, q11, q12, q13⟩, -⟩ := cells14 (HX.out _ (hB1.trans (h9.bel.mono hB1.size)))
  go_wp2_with fail
  refine (wvInt_any (es.length : Int) h9 (by first | omega | (simp <;> omega)) kes).mono ?_
  rintro r w10 ⟨rfl, h10⟩
  obtain ⟨⟨q0, q1, q2, q3, q4, q5, q6, q7, q8, q9, q10, q11, q12, q13⟩, -⟩ := cells14 (HX.out _ (hB1.trans (h10.bel.mono hB1.size)))
  rw [Int.toNat_natCast] at h10
  obtain ⟨L, hL⟩ : ∃ L : List UInt8, ([] ++ numB (3 : Int).toNat ++ numB fr.toNat ++ numB to.toNat ++ numB tm.toNat ++ numB ix.toNat ++ numB lt.toNat ++ numB cm.toNat ++ numB es.length) = L := ⟨_, rfl⟩
  have HL : Hid (([] ++ numB (3 : Int).toNat ++ numB fr.toNat ++ numB to.toNat ++ numB tm.toNat ++ numB ix.toNat ++ numB lt.toNat ++ numB cm.toNat ++ numB es.length) = L) := hL
  clear hL
  rw [HL.out] at h10
  have hLl : L.length ≤ 1000 := by rw [← HL.out]; simp; have := numB_len 3; omega
  go_wp2_with fail
  clear q0 q1 q2 q3 q4 q5 q6 q7 q8 q9 q10 q11 q12 q13

  go_loopw [6] (fun iv wr => ∃ (j : Nat), iv = .int .i64 (j : Int) ∧ j ≤ es.length ∧ Wv w1 wr (L ++ packs (es.take j))) (fun iv _ => es.length - (intOf iv).toNat)
  case atStart => exact ⟨0, rfl, Nat.zero_le _, by simpa [packs] using h10⟩
  case round =>
    obtain ⟨j, rfl, hj, hW⟩ := hrel
    have hBr := hB1.trans (hW.bel.mono hB1.size)
    have hlw : w.heap.size < wr.heap.size := by have := hBr.size; have := HS0.out; omega
    obtain ⟨⟨q0, q1, q2, q3, q4, q5, q6, q7, q8, q9, q10, q11, q12, q13⟩, -⟩ := cells14 (HX.out _ hBr)
    by_cases hlt : j < es.length
    · obtain ⟨b, off, hea, hb', he⟩ := HEE.out.at hlt
      subst hea
      have he' := he.below hb' (hBr.mono hNW)
      have hcke := HA.out _ (getD_mem hlt)
      have HP : Hid (packs (es.take (j + 1)) = packs (es.take j) ++ (numB (es.getD j nilEnt).tx.length ++ (es.getD j nilEnt).tx)) := packs_take hlt
      have hpl := packs_len (es := es.take j) (fun e he => HA.out e (List.mem_of_mem_take he))
      have htl : (es.take j).length = j := by simp; omega
      rw [htl] at hpl
      generalize es.getD j nilEnt = e at *
      have hel := ent_len hcke
      obtain ⟨et, ei, ek, eaa, ecc, ed⟩ := e
      obtain ⟨c0, c1, c2, c3, c4⟩ := he'
      unfold Ent.x at c3 c4
      unfold Ent.tx at HP hel
      unfold Ent.ck at hcke
      simp only at c0 c1 c2 c3 c4 HP hel hcke
      have hbw : b < wr.heap.size := by have := hBr.size; omega
      have hp := refPutEntryO_any et ei ek ed eaa ecc wr N c4 (by have := hBr.size; omega)
      rw [hcke, if_pos rfl] at hp
      have hpl2 : (L ++ packs (es.take j)).length ≤ 1073740824 := by simp; omega
      have HF : Hid (∀ w', Wv w1 w' (L ++ packs (es.take j) ++ (numB (txEntry et ei ek ed).length ++ txEntry et ei ek ed)) → Wv w1 w' (L ++ packs (es.take (j + 1)))) := fun w' hw => by
        rw [HP.out, ← List.append_assoc]; exact hw
      have HWR : Hid (Wv w1 wr (L ++ packs (es.take j))) := hW
      clear he hcke c4 hpl hW hBr
      have hT2 : ((txEntry et ei ek ed).length : Int) ≤ 8192 := by omega
      have hT3 : (txEntry et ei ek ed).length ≤ 1073741824 := by omega
      clear hel
      generalize txEntry et ei ek ed = T at *
      go_wp2_with (first
        | (go_at_call 11; refine hp.mono ?_; rintro r w5 ⟨u5, rfl, hO5, hB5⟩; obtain ⟨ua, uc, rfl, -, -⟩ := hO5.shape)
        | (go_at_call 59; refine (wvBytesO_any 8192 HWR.out hpl2 hB5 hT3 hO5 (Nat.le_refl _) hT2).mono ?_; rintro r w6 ⟨rfl, hW6⟩))
      exact ⟨⟨j + 1, by go_num, by omega, HF.out _ hW6⟩, by simp [intOf]; omega⟩
    · have hF : Wv w1 wr (L ++ packs es) := by
        have e0 : es.take j = es := List.take_of_length_le (by omega)
        rw [e0] at hW; exact hW
      clear hW
      go_wp2_with fail
      refine (wvDone_any hF).mono ?_
      rintro r w9 ⟨u, rfl, hO9, hB9⟩
      go_wp2
      go_ret2
      refine ⟨u, by rw [hk]; rfl, ?_, HB0.out.trans ((hB1.trans (hB9.mono hB1.size)).mono HB0.out.size)⟩
      rw [← HL.out] at hO9
      simpa [numB] using hO9

end Go.Proofs.Ytfnnbfgfmbiabaa

