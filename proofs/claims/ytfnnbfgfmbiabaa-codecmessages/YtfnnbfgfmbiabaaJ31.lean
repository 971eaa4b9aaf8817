/-
  RefC7; RefP7; Set14.
-/
import Derived.Test.YtfnnbfgfmbiabaaJ21
import Derived.Test.YtfnnbfgfmbiabaaJ22
import Derived.Test.YtfnnbfgfmbiabaaJ29
import Derived.Test.YtfnnbfgfmbiabaaJ17
import Derived.Test.YtfnnbfgfmbiabaaJ18
import Derived.Test.YtfnnbfgfmbiabaaJ28
import Derived.Test.YtfnnbfgfmbiabaaJ12
/-
  The document's check of messages, kind 7.
-/
namespace Go.Proofs.Ytfnnbfgfmbiabaa
open Go.RowKit Go.Shelf

set_option linter.unusedVariables false

theorem blankR7 (fr to tm ix lt cm hi cx : Int) (rj : Bool) (ea : Option Addr) (ec : Nat) (es : List Ent) (si st : Int) (sa : Option Addr) (sc : Nat) (sd : List UInt8) : ((((7 : Int) == 7) && (fr == fr) && (to == to) && (tm == tm)) && (decide (sd = sd) && (si == si) && (st == st)) && decide (saysOf es = saysOf []) && (ix == 0) && (lt == 0) && (cm == 0) && (hi == 0) && (cx == 0) && (rj == false)) = blank ix lt cm hi cx rj es.length 0 0 0 := by
  rw [Bool.eq_iff_iff]
  simp [blank, saysOf]
  try (constructor <;> rintro h <;> simp_all)

set_option maxRecDepth 100000 in
set_option maxHeartbeats 8000000 in
theorem refChkM7_any (fr to tm ix lt cm hi cx : Int) (rj : Bool) (ea : Option Addr) (ec : Nat) (es : List Ent) (si st : Int) (sa : Option Addr) (sc : Nat) (sd : List UInt8) (N : Nat) (w : World) (hE : EntsAt N w ea es) (hD : Sl N w (.slice sa sd.length sc) sd) (hN : N ≤ w.heap.size) (hz : es.length ≤ 1000000) : Calls Try.prog 50 #[.agg #[.int .i64 7, .int .i64 fr, .int .i64 to, .int .i64 tm, .int .i64 ix, .int .i64 lt, .int .i64 cm, .int .i64 hi, .int .i64 cx, .bool rj, .slice ea es.length ec, .int .i64 si, .int .i64 st, .slice sa sd.length sc]] w fun e w' => e = .returned (.int .i64 (ckM7 fr to tm ix lt cm hi cx rj es.length si st sd.length : Int)) ∧ Below w.heap.size w w' := by
  have inK : isIn 7 1 7 = true := by decide
  unfold ckM7
  by_cases hR : msgRange fr to tm ix lt cm hi cx = true
  case neg =>
    simp only [Bool.not_eq_true] at hR
    rw [if_pos hR]
    exact refRangeNo_any 7 fr to tm ix lt cm hi cx rj ea es.length ec si st sa sd.length sc w inK hR
  rw [if_neg (by simp [hR])]
  have hR' := hR
  unfold msgRange at hR'
  simp only [Bool.and_eq_true] at hR'
  obtain ⟨⟨⟨⟨⟨⟨⟨g0, g1⟩, g2⟩, g3⟩, g4⟩, g5⟩, g6⟩, g7⟩ := hR'
  obtain ⟨W0, hW0⟩ : ∃ W0, w.alloc (.cells #[.int .i64 7, .int .i64 fr, .int .i64 to, .int .i64 tm, .int .i64 ix, .int .i64 lt, .int .i64 cm, .int .i64 hi, .int .i64 cx, .bool rj, .slice ea es.length ec, .int .i64 si, .int .i64 st, .slice sa sd.length sc] 95) = W0 := ⟨_, rfl⟩
  have HW0 : Hid (w.alloc (.cells #[.int .i64 7, .int .i64 fr, .int .i64 to, .int .i64 tm, .int .i64 ix, .int .i64 lt, .int .i64 cm, .int .i64 hi, .int .i64 cx, .bool rj, .slice ea es.length ec, .int .i64 si, .int .i64 st, .slice sa sd.length sc] 95) = W0) := hW0
  have HB0 : Hid (Below w.heap.size w W0) := by show Below w.heap.size w W0; rw [← hW0]; exact (Below.refl _ w).alloc (by simp) _
  have HX : Hid (∀ w', Below W0.heap.size W0 w' → w'.heap[w.heap.size]? = some (.cells #[.int .i64 7, .int .i64 fr, .int .i64 to, .int .i64 tm, .int .i64 ix, .int .i64 lt, .int .i64 cm, .int .i64 hi, .int .i64 cx, .bool rj, .slice ea es.length ec, .int .i64 si, .int .i64 st, .slice sa sd.length sc] 95 (0, 0))) := fun w' hB => by
    refine (hB.block _ (by rw [← hW0]; simp)).trans ?_
    rw [← hW0]; exact World.alloc_heap_new w _
  have HS0 : Hid (W0.heap.size = w.heap.size + 1) := by show W0.heap.size = _; rw [← hW0]; simp
  clear hW0
  have HEE : Hid (EntsAt N W0 ea es) := hE.below (HB0.out.mono hN)
  have HSD : Hid (Sl N W0 (.slice sa sd.length sc) sd) := hD.below (HB0.out.mono hN)
  have hNW : N ≤ W0.heap.size := by have := HS0.out; omega
  clear hE hD
  obtain ⟨bl, hbl⟩ : ∃ bl, blank ix lt cm hi cx rj es.length 0 0 0 = bl := ⟨_, rfl⟩
  rw [hbl]
  have HSM : Hid (∀ w1, Below W0.heap.size W0 w1 → Calls Try.prog 53 #[.agg #[.int .i64 7, .int .i64 fr, .int .i64 to, .int .i64 tm, .int .i64 ix, .int .i64 lt, .int .i64 cm, .int .i64 hi, .int .i64 cx, .bool rj, .slice ea es.length ec, .int .i64 si, .int .i64 st, .slice sa sd.length sc], .agg #[.int .i64 7, .int .i64 fr, .int .i64 to, .int .i64 tm, .int .i64 0, .int .i64 0, .int .i64 0, .int .i64 0, .int .i64 0, .bool false, .slice none 0 0, .int .i64 si, .int .i64 st, .slice sa sd.length sc]] w1 fun e w' => e = .returned (.bool bl) ∧ Below w1.heap.size w1 w') := fun w1 hB1 => by
    have hS := sameMsg_any 7 fr to tm ix lt cm hi cx rj ea ec es si st sa sc sd 7 fr to tm 0 0 0 0 0 false none 0 [] si st sa sc sd N w1 (HEE.out.below (hB1.mono hNW)) (.inl rfl) (HSD.out.below (hB1.mono hNW)) (HSD.out.below (hB1.mono hNW)) (by have := hB1.size; omega) hz
    rw [(blankR7 fr to tm ix lt cm hi cx rj ea ec es si st sa sc sd).trans hbl] at hS
    exact hS
  clear hbl
  obtain ⟨E, HE⟩ : ∃ E : Nat, Hid ((if fr = to then 4 else if bl = false then 4 else ckSnapM tm si st sd.length) = E) := ⟨_, rfl⟩
  rw [HE.out]
  go_enter Try.func50, Try.ntmps50
  go_wp2_with (first
    | (go_at_call 62; refine (refWithin_any _ _ _ _).mono ?_; rintro e w' ⟨rfl, hw⟩; subst w'; simp only [inK, g0, g1, g2])
    | (go_at_call 91; refine (number_any _ _).mono ?_; rintro e w' ⟨rfl, hw⟩; subst w'; simp only [g3, g4, g5, g6, g7]))
  rw [HW0.out]
  obtain ⟨⟨q0, q1, q2, q3, q4, q5, q6, q7, q8, q9, q10, q11, q12, q13⟩, -⟩ := cells14 (HX.out _ (Below.refl _ _))
  have hlw0 : w.heap.size < W0.heap.size := by have := HS0.out; omega
  go_region_held3 (fun w' => w'.cell? ⟨w.heap.size, 0, none⟩ = some (.int .i64 7) ∧ w'.cell? ⟨w.heap.size, 1, none⟩ = some (.int .i64 fr) ∧ w'.cell? ⟨w.heap.size, 2, none⟩ = some (.int .i64 to) ∧ w'.cell? ⟨w.heap.size, 3, none⟩ = some (.int .i64 tm) ∧ w'.cell? ⟨w.heap.size, 4, none⟩ = some (.int .i64 ix) ∧ w'.cell? ⟨w.heap.size, 5, none⟩ = some (.int .i64 lt) ∧ w'.cell? ⟨w.heap.size, 6, none⟩ = some (.int .i64 cm) ∧ w'.cell? ⟨w.heap.size, 7, none⟩ = some (.int .i64 hi) ∧ w'.cell? ⟨w.heap.size, 8, none⟩ = some (.int .i64 cx) ∧ w'.cell? ⟨w.heap.size, 9, none⟩ = some (.bool rj) ∧ w'.cell? ⟨w.heap.size, 10, none⟩ = some (.slice ea es.length ec) ∧ w'.cell? ⟨w.heap.size, 11, none⟩ = some (.int .i64 si) ∧ w'.cell? ⟨w.heap.size, 12, none⟩ = some (.int .i64 st) ∧ w'.cell? ⟨w.heap.size, 13, none⟩ = some (.slice sa sd.length sc)) (go_keep)
    (first
      | (go_at_call 92; refine (used7_any _ _ _ _ _ _ _ _ _ _ _ _ _ _ _ _ _ _).mono ?_; rintro e w1 ⟨rfl, hB1d⟩; have hB1 : Below W0.heap.size W0 w1 := ⟨hB1d.os, hB1d.tape, hB1d.output, hB1d.size, hB1d.block⟩; obtain ⟨⟨q0, q1, q2, q3, q4, q5, q6, q7, q8, q9, q10, q11, q12, q13⟩, -⟩ := cells14 (HX.out _ hB1))
      | (go_at_call 53; refine (HSM.out _ hB1).mono ?_; rintro e w2 ⟨rfl, hB2⟩; have hB2' := hB1.trans (hB2.mono hB1.size); obtain ⟨⟨q0, q1, q2, q3, q4, q5, q6, q7, q8, q9, q10, q11, q12, q13⟩, -⟩ := cells14 (HX.out _ hB2')))
  have hlw2 : w.heap.size < w2.heap.size := by have := hB2'.size; have := HS0.out; omega
  clear HSM
  by_cases hE : fr = to
  case pos =>
    obtain rfl : E = 4 := by rw [← HE.out, if_pos hE]
    clear HE
    subst hE
    go_wp2
    go_returns
    exact ⟨rfl, HB0.out.trans (hB2'.mono HB0.out.size)⟩
  have hE' : (fr == to) = false := by simpa using hE
  cases bl
  case false =>
    obtain rfl : E = 4 := by rw [← HE.out, if_neg hE, if_pos rfl]
    clear HE
    go_wp2
    go_returns
    exact ⟨rfl, HB0.out.trans (hB2'.mono HB0.out.size)⟩
  have hT : ckSnapM tm si st sd.length = E := by have := HE.out; rw [if_neg hE, if_neg (by simp)] at this; exact this
  clear HE
  have HT : Hid (ckSnapM tm si st sd.length = E) := hT
  clear hT
  have hT := HT.out
  unfold ckSnapM at hT
  have ckA := fun w' => refCkSnap_any si st sa sd.length sc w'
  obtain ⟨K, hKK⟩ : ∃ K, ckSnap si st sd.length = K := ⟨_, rfl⟩
  simp only [hKK] at hT
  rw [hKK] at ckA
  clear hKK HT
  by_cases hK : K = 0
  case neg =>
    rw [if_pos hK] at hT
    subst hT
    have hke : ((K : Int) != 0) = true := by simp; omega
    go_wp2_with (go_at_call 30; refine (ckA _).mono ?_; rintro e w3 ⟨rfl, hB3⟩)
    go_returns
    exact ⟨rfl, HB0.out.trans ((hB2'.trans (hB3.mono hB2'.size)).mono HB0.out.size)⟩
  subst hK
  rw [if_neg (by simp)] at hT
  obtain ⟨sz, hsz⟩ : ∃ sz, ((si == 0) && (st == 0) && (sd.length == 0)) = sz := ⟨_, rfl⟩
  rw [hsz] at hT
  have HT2 : Hid (fI (sz || decide (tm < st)) = E) := hT
  have HSZ : Hid (((si == 0) && (st == 0) && (sd.length == 0)) = sz) := hsz
  clear hT hsz
  cases sz
  all_goals
    by_cases hT : tm < st
    all_goals
      have hE4 := HT2.out.symm
      simp [fI, hT] at hE4
      subst hE4
      clear HT2
      go_wp2_with (first
        | (go_at_call 30; refine (ckA _).mono ?_; rintro e w3 ⟨rfl, hB3⟩; have hB3' := hB2'.trans (hB3.mono hB2'.size); obtain ⟨⟨q0, q1, q2, q3, q4, q5, q6, q7, q8, q9, q10, q11, q12, q13⟩, -⟩ := cells14 (HX.out _ hB3'))
        | (go_at_call 73; refine (refNone_any _ _ _ _ _ _).mono ?_; rintro e w4 ⟨rfl, hB4⟩; rw [HSZ.out]; have hB4' := hB3'.trans (hB4.mono hB3'.size); obtain ⟨⟨q0, q1, q2, q3, q4, q5, q6, q7, q8, q9, q10, q11, q12, q13⟩, -⟩ := cells14 (HX.out _ hB4')))
      go_returns
      exact ⟨rfl, HB0.out.trans (hB4'.mono HB0.out.size)⟩

end Go.Proofs.Ytfnnbfgfmbiabaa

/-
  The document's put of messages, kind 7.
-/
namespace Go.Proofs.Ytfnnbfgfmbiabaa
open Go.RowKit Go.Shelf

set_option linter.unusedVariables false

set_option maxRecDepth 100000 in
set_option maxHeartbeats 8000000 in
theorem refPutM7_any (fr to tm ix lt cm hi cx : Int) (rj : Bool) (ea : Option Addr) (ec : Nat) (es : List Ent) (si st : Int) (sa : Option Addr) (sc : Nat) (sd : List UInt8) (N : Nat) (w : World) (hE : EntsAt N w ea es) (hD : Sl N w (.slice sa sd.length sc) sd) (hN : N ≤ w.heap.size) (hz : es.length ≤ 1000000) : Calls Try.prog 48 #[.agg #[.int .i64 7, .int .i64 fr, .int .i64 to, .int .i64 tm, .int .i64 ix, .int .i64 lt, .int .i64 cm, .int .i64 hi, .int .i64 cx, .bool rj, .slice ea es.length ec, .int .i64 si, .int .i64 st, .slice sa sd.length sc]] w fun r w' =>
    ∃ u, r = .returned (.tuple #[u, .int .i64 (ckM7 fr to tm ix lt cm hi cx rj es.length si st sd.length : Int)]) ∧ Sl w'.heap.size w' u (if ckM7 fr to tm ix lt cm hi cx rj es.length si st sd.length = 0 then numB 7 ++ numB fr.toNat ++ numB to.toNat ++ numB tm.toNat ++ (numB (txSnap si st sd).length ++ txSnap si st sd) else []) ∧ Below w.heap.size w w' := by
  have hbfr := numB_len fr.toNat
  have hbto := numB_len to.toNat
  have hbtm := numB_len tm.toNat
  have hbix := numB_len ix.toNat
  have hblt := numB_len lt.toNat
  have hbcm := numB_len cm.toNat
  have hbhi := numB_len hi.toNat
  have hbcx := numB_len cx.toNat
  have hbrj := numB_len (bN rj)
  have hb0 := numB_len 7
  obtain ⟨W0, hW0⟩ : ∃ W0, w.alloc (.cells #[.int .i64 7, .int .i64 fr, .int .i64 to, .int .i64 tm, .int .i64 ix, .int .i64 lt, .int .i64 cm, .int .i64 hi, .int .i64 cx, .bool rj, .slice ea es.length ec, .int .i64 si, .int .i64 st, .slice sa sd.length sc] 95) = W0 := ⟨_, rfl⟩
  have HW0 : Hid (w.alloc (.cells #[.int .i64 7, .int .i64 fr, .int .i64 to, .int .i64 tm, .int .i64 ix, .int .i64 lt, .int .i64 cm, .int .i64 hi, .int .i64 cx, .bool rj, .slice ea es.length ec, .int .i64 si, .int .i64 st, .slice sa sd.length sc] 95) = W0) := hW0
  have HB0 : Hid (Below w.heap.size w W0) := by show Below w.heap.size w W0; rw [← hW0]; exact (Below.refl _ w).alloc (by simp) _
  have HX : Hid (∀ w', Below W0.heap.size W0 w' → w'.heap[w.heap.size]? = some (.cells #[.int .i64 7, .int .i64 fr, .int .i64 to, .int .i64 tm, .int .i64 ix, .int .i64 lt, .int .i64 cm, .int .i64 hi, .int .i64 cx, .bool rj, .slice ea es.length ec, .int .i64 si, .int .i64 st, .slice sa sd.length sc] 95 (0, 0))) := fun w' hB => by
    refine (hB.block _ (by rw [← hW0]; simp)).trans ?_
    rw [← hW0]; exact World.alloc_heap_new w _
  have HS0 : Hid (W0.heap.size = w.heap.size + 1) := by show W0.heap.size = _; rw [← hW0]; simp
  clear hW0
  have hNW : N ≤ W0.heap.size := by have := HS0.out; omega
  have hck := refChkM7_any fr to tm ix lt cm hi cx rj ea ec es si st sa sc sd N W0 (hE.below (HB0.out.mono hN)) (hD.below (HB0.out.mono hN)) hNW hz
  by_cases hk : ckM7 fr to tm ix lt cm hi cx rj es.length si st sd.length = 0
  case neg =>
    rw [if_neg hk]
    generalize ckM7 fr to tm ix lt cm hi cx rj es.length si st sd.length = ke at *
    have hke : ((ke : Int) != 0) = true := by simp; omega
    go_enter Try.func48, Try.ntmps48
    go_wp2_with (go_at_call 50; rw [HW0.out]; refine hck.mono ?_; rintro e w1 ⟨rfl, hB1⟩)
    go_ret2
    exact ⟨_, rfl, Sl.nil _ _, HB0.out.trans (hB1.mono HB0.out.size)⟩
  rw [if_pos hk]
  obtain ⟨kfr, kto, ktm, kix, klt, kcm, khi, kcx⟩ := ckM7_ok hk
  have k0 : isNumB 7 = true := by decide
  have hks := ckM7_snap hk
  obtain ⟨_, _, hs3⟩ := ckSnap_ok hks
  have hts := txSnap_len si st sd
  have hbts := numB_len (txSnap si st sd).length
  rw [hk] at hck
  have HEE : Hid (EntsAt N W0 ea es) := hE.below (HB0.out.mono hN)
  have HSD : Hid (Sl N W0 (.slice sa sd.length sc) sd) := hD.below (HB0.out.mono hN)
  clear hE hD
  go_enter Try.func48, Try.ntmps48
  go_wp2_with (go_at_call 50; rw [HW0.out]; refine hck.mono ?_; rintro e w1 ⟨rfl, hB1⟩; obtain ⟨⟨q0, q1, q2, q3, q4, q5, q6, q7, q8, q9, q10, q11, q12, q13⟩, -⟩ := cells14 (HX.out _ hB1); have h2 := newV (w := w1); obtain ⟨⟨q0, q1, q2, q3, q4, q5, q6, q7, q8, q9, q10, q11, q12, q13⟩, -⟩ := cells14 (HX.out _ (hB1.trans (h2.bel.mono hB1.size))))
  refine (wvInt_any 7 h2 (by first | omega | (simp <;> omega)) k0).mono ?_
  rintro r w3 ⟨rfl, h3⟩
  obtain ⟨⟨q0, q1, q2, q3, q4, q5, q6, q7, q8, q9, q10, q11, q12, q13⟩, -⟩ := cells14 (HX.out _ (hB1.trans (h3.bel.mono hB1.size)))
  go_wp2_with fail
  refine (wvInt_any fr h3 (by first | omega | (simp <;> omega)) kfr).mono ?_
  rintro r w4 ⟨rfl, h4⟩
  obtain ⟨⟨q0, q1, q2, q3, q4, q5, q6, q7, q8, q9, q10, q11, q12, q13⟩, -⟩ := cells14 (HX.out _ (hB1.trans (h4.bel.mono hB1.size)))
  go_wp2_with fail
  refine (wvInt_any to h4 (by first | omega | (simp <;> omega)) kto).mono ?_
  rintro r w5 ⟨rfl, h5⟩
  obtain ⟨⟨q0, q1, q2, q3, q4, q5, q6, q7, q8, q9, q10, q11, q12, q13⟩, -⟩ := cells14 (HX.out _ (hB1.trans (h5.bel.mono hB1.size)))
  go_wp2_with fail
  refine (wvInt_any tm h5 (by first | omega | (simp <;> omega)) ktm).mono ?_
  rintro r w6 ⟨rfl, h6⟩
  obtain ⟨⟨q0, q1, q2, q3, q4, q5, q6, q7, q8, q9, q10, q11, q12, q13⟩, -⟩ := cells14 (HX.out _ (hB1.trans (h6.bel.mono hB1.size)))
  have hB7 := hB1.trans (h6.bel.mono hB1.size)
  go_wp2_with fail
  refine (refPutSnapO_any si st sd sa sc w6 N (HSD.out.below (hB7.mono hNW)) (by have := hB7.size; omega)).mono ?_
  rintro r w6b ⟨u7, rfl, hO7, hBb⟩
  rw [hks]
  rw [if_pos hks] at hO7
  obtain ⟨ua, uc, rfl, -, -⟩ := hO7.shape
  go_wp2_with fail
  refine (wvBytesO_any 1048576 h6 (by simp <;> omega) hBb (by omega) hO7 (Nat.le_refl _) (by omega)).mono ?_
  rintro r w7 ⟨rfl, h7⟩
  go_wp2_with fail
  refine (wvDone_any h7).mono ?_
  rintro r w9 ⟨u, rfl, hO9, hB9⟩
  go_wp2
  go_ret2
  refine ⟨u, by rw [hk]; rfl, ?_, HB0.out.trans ((hB1.trans (hB9.mono hB1.size)).mono HB0.out.size)⟩
  simpa [numB] using hO9

end Go.Proofs.Ytfnnbfgfmbiabaa

/-
  A message in a result: fourteen cells.
-/
namespace Go.Proofs.Ytfnnbfgfmbiabaa
open Go.RowKit Go.Shelf

theorem arr14 (x0 x1 x2 x3 x4 x5 x6 x7 x8 x9 x10 x11 x12 x13 y0 y1 y2 y3 y4 y5 y6 y7 y8 y9 y10 y11 y12 y13 : Value) : ((((((((((((((#[x0, x1, x2, x3, x4, x5, x6, x7, x8, x9, x10, x11, x12, x13].setIfInBounds 0 y0).setIfInBounds 1 y1).setIfInBounds 2 y2).setIfInBounds 3 y3).setIfInBounds 4 y4).setIfInBounds 5 y5).setIfInBounds 6 y6).setIfInBounds 7 y7).setIfInBounds 8 y8).setIfInBounds 9 y9).setIfInBounds 10 y10).setIfInBounds 11 y11).setIfInBounds 12 y12).setIfInBounds 13 y13) = #[y0, y1, y2, y3, y4, y5, y6, y7, y8, y9, y10, y11, y12, y13] := by simp
set_option maxRecDepth 100000 in
set_option maxHeartbeats 8000000 in
theorem set14 {w : World} {B : Nat} {x0 x1 x2 x3 x4 x5 x6 x7 x8 x9 x10 x11 x12 x13 : Value} {t : TypeId} (h : w.heap[B]? = some (.cells #[x0, x1, x2, x3, x4, x5, x6, x7, x8, x9, x10, x11, x12, x13] t (0, 0))) (y0 y1 y2 y3 y4 y5 y6 y7 y8 y9 y10 y11 y12 y13 : Value) :
    ((((((((((((((w.setCell ⟨B, 0, none⟩ y0).setCell ⟨B, 1, none⟩ y1).setCell ⟨B, 2, none⟩ y2).setCell ⟨B, 3, none⟩ y3).setCell ⟨B, 4, none⟩ y4).setCell ⟨B, 5, none⟩ y5).setCell ⟨B, 6, none⟩ y6).setCell ⟨B, 7, none⟩ y7).setCell ⟨B, 8, none⟩ y8).setCell ⟨B, 9, none⟩ y9).setCell ⟨B, 10, none⟩ y10).setCell ⟨B, 11, none⟩ y11).setCell ⟨B, 12, none⟩ y12).setCell ⟨B, 13, none⟩ y13).heap[B]? = some (.cells #[y0, y1, y2, y3, y4, y5, y6, y7, y8, y9, y10, y11, y12, y13] t (0, 0)) := by
  have e := heap_set (heap_set (heap_set (heap_set (heap_set (heap_set (heap_set (heap_set (heap_set (heap_set (heap_set (heap_set (heap_set (heap_set h 0 y0) 1 y1) 2 y2) 3 y3) 4 y4) 5 y5) 6 y6) 7 y7) 8 y8) 9 y9) 10 y10) 11 y11) 12 y12) 13 y13
  rw [arr14] at e
  exact e
theorem belset14 {N : Nat} {w0 w : World} {B : Nat} (h : Below N w0 w) (hB : N ≤ B) (y0 y1 y2 y3 y4 y5 y6 y7 y8 y9 y10 y11 y12 y13 : Value) : Below N w0 ((((((((((((((w.setCell ⟨B, 0, none⟩ y0).setCell ⟨B, 1, none⟩ y1).setCell ⟨B, 2, none⟩ y2).setCell ⟨B, 3, none⟩ y3).setCell ⟨B, 4, none⟩ y4).setCell ⟨B, 5, none⟩ y5).setCell ⟨B, 6, none⟩ y6).setCell ⟨B, 7, none⟩ y7).setCell ⟨B, 8, none⟩ y8).setCell ⟨B, 9, none⟩ y9).setCell ⟨B, 10, none⟩ y10).setCell ⟨B, 11, none⟩ y11).setCell ⟨B, 12, none⟩ y12).setCell ⟨B, 13, none⟩ y13) :=
  bel_set (bel_set (bel_set (bel_set (bel_set (bel_set (bel_set (bel_set (bel_set (bel_set (bel_set (bel_set (bel_set (bel_set h hB _) hB _) hB _) hB _) hB _) hB _) hB _) hB _) hB _) hB _) hB _) hB _) hB _) hB _
theorem grownset14 (w : World) (B : Nat) (y0 y1 y2 y3 y4 y5 y6 y7 y8 y9 y10 y11 y12 y13 : Value) : w.grownBy ((((((((((((((w.setCell ⟨B, 0, none⟩ y0).setCell ⟨B, 1, none⟩ y1).setCell ⟨B, 2, none⟩ y2).setCell ⟨B, 3, none⟩ y3).setCell ⟨B, 4, none⟩ y4).setCell ⟨B, 5, none⟩ y5).setCell ⟨B, 6, none⟩ y6).setCell ⟨B, 7, none⟩ y7).setCell ⟨B, 8, none⟩ y8).setCell ⟨B, 9, none⟩ y9).setCell ⟨B, 10, none⟩ y10).setCell ⟨B, 11, none⟩ y11).setCell ⟨B, 12, none⟩ y12).setCell ⟨B, 13, none⟩ y13) (some B) :=
  grown_trans (grown_trans (grown_trans (grown_trans (grown_trans (grown_trans (grown_trans (grown_trans (grown_trans (grown_trans (grown_trans (grown_trans (grown_trans (grown_set _ _ _ _) (grown_set _ _ _ _) (fun _ e => .inl e)) (grown_set _ _ _ _) (fun _ e => .inl e)) (grown_set _ _ _ _) (fun _ e => .inl e)) (grown_set _ _ _ _) (fun _ e => .inl e)) (grown_set _ _ _ _) (fun _ e => .inl e)) (grown_set _ _ _ _) (fun _ e => .inl e)) (grown_set _ _ _ _) (fun _ e => .inl e)) (grown_set _ _ _ _) (fun _ e => .inl e)) (grown_set _ _ _ _) (fun _ e => .inl e)) (grown_set _ _ _ _) (fun _ e => .inl e)) (grown_set _ _ _ _) (fun _ e => .inl e)) (grown_set _ _ _ _) (fun _ e => .inl e)) (grown_set _ _ _ _) (fun _ e => .inl e)
set_option maxRecDepth 100000 in
set_option maxHeartbeats 8000000 in
theorem results_95 {fn : Func} {t u : Tmp} (h : fn.results = #[.cell t 95, .tmp u]) (tmps : Array Value) (w : World) (B : Nat) {x0 x1 x2 x3 x4 x5 x6 x7 x8 x9 x10 x11 x12 x13 : Value} (ht : tmps.getD t undef = .pointer (some ⟨B, 0, none⟩)) (hb : w.heap[B]? = some (.cells #[x0, x1, x2, x3, x4, x5, x6, x7, x8, x9, x10, x11, x12, x13] 95 (0, 0))) :
    (results fn tmps).run Try.prog w = .ok (.tuple #[.agg #[x0, x1, x2, x3, x4, x5, x6, x7, x8, x9, x10, x11, x12, x13], tmps.getD u undef]) w := by
  obtain ⟨⟨c0, c1, c2, c3, c4, c5, c6, c7, c8, c9, c10, c11, c12, c13⟩, -⟩ := cells14 hb
  have ht' : tmps[t]?.getD undef = .pointer (some ⟨B, 0, none⟩) := by rw [← Array.getD_eq_getD_getElem?]; exact ht
  simp [results, h, ht', asAddr, loadVar, c0, c1, c2, c3, c4, c5, c6, c7, c8, c9, c10, c11, c12, c13, go_sem]

end Go.Proofs.Ytfnnbfgfmbiabaa

