/-
  RefC5; RefP5.
-/
import Derived.Test.YtfnnbfgfmbiabaaJ21
import Derived.Test.YtfnnbfgfmbiabaaJ22
import Derived.Test.YtfnnbfgfmbiabaaJ25
import Derived.Test.YtfnnbfgfmbiabaaJ29
import Derived.Test.YtfnnbfgfmbiabaaJ20
import Derived.Test.YtfnnbfgfmbiabaaJ15
/-
  The document's check of messages, kinds 5, 6.
-/
namespace Go.Proofs.Ytfnnbfgfmbiabaa
open Go.RowKit Go.Shelf

set_option linter.unusedVariables false

theorem blankR5 (fr to tm ix lt cm hi cx : Int) (rj : Bool) (ea : Option Addr) (ec : Nat) (es : List Ent) (si st : Int) (sa : Option Addr) (sc : Nat) (sd : List UInt8) : ((((5 : Int) == 5) && (fr == fr) && (to == to) && (tm == tm)) && (decide (sd = []) && (si == 0) && (st == 0)) && decide (saysOf es = saysOf []) && (ix == 0) && (lt == 0) && (cm == cm) && (hi == 0) && (cx == cx) && (rj == false)) = blank ix lt 0 hi 0 rj es.length si st sd.length := by
  rw [Bool.eq_iff_iff]
  simp [blank, saysOf]
  try (constructor <;> rintro h <;> simp_all)

set_option maxRecDepth 100000 in
set_option maxHeartbeats 8000000 in
theorem refChkM5_any (fr to tm ix lt cm hi cx : Int) (rj : Bool) (ea : Option Addr) (ec : Nat) (es : List Ent) (si st : Int) (sa : Option Addr) (sc : Nat) (sd : List UInt8) (N : Nat) (w : World) (hE : EntsAt N w ea es) (hD : Sl N w (.slice sa sd.length sc) sd) (hN : N ≤ w.heap.size) (hz : es.length ≤ 1000000) : Calls Try.prog 50 #[.agg #[.int .i64 5, .int .i64 fr, .int .i64 to, .int .i64 tm, .int .i64 ix, .int .i64 lt, .int .i64 cm, .int .i64 hi, .int .i64 cx, .bool rj, .slice ea es.length ec, .int .i64 si, .int .i64 st, .slice sa sd.length sc]] w fun e w' => e = .returned (.int .i64 (ckM5 fr to tm ix lt cm hi cx rj es.length si st sd.length : Int)) ∧ Below w.heap.size w w' := by
  have inK : isIn 5 1 7 = true := by decide
  unfold ckM5
  by_cases hR : msgRange fr to tm ix lt cm hi cx = true
  case neg =>
    simp only [Bool.not_eq_true] at hR
    rw [if_pos hR]
    exact refRangeNo_any 5 fr to tm ix lt cm hi cx rj ea es.length ec si st sa sd.length sc w inK hR
  rw [if_neg (by simp [hR])]
  have hR' := hR
  unfold msgRange at hR'
  simp only [Bool.and_eq_true] at hR'
  obtain ⟨⟨⟨⟨⟨⟨⟨g0, g1⟩, g2⟩, g3⟩, g4⟩, g5⟩, g6⟩, g7⟩ := hR'
  obtain ⟨W0, hW0⟩ : ∃ W0, w.alloc (.cells #[.int .i64 5, .int .i64 fr, .int .i64 to, .int .i64 tm, .int .i64 ix, .int .i64 lt, .int .i64 cm, .int .i64 hi, .int .i64 cx, .bool rj, .slice ea es.length ec, .int .i64 si, .int .i64 st, .slice sa sd.length sc] 95) = W0 := ⟨_, rfl⟩
  have HW0 : Hid (w.alloc (.cells #[.int .i64 5, .int .i64 fr, .int .i64 to, .int .i64 tm, .int .i64 ix, .int .i64 lt, .int .i64 cm, .int .i64 hi, .int .i64 cx, .bool rj, .slice ea es.length ec, .int .i64 si, .int .i64 st, .slice sa sd.length sc] 95) = W0) := hW0
  have HB0 : Hid (Below w.heap.size w W0) := by show Below w.heap.size w W0; rw [← hW0]; exact (Below.refl _ w).alloc (by simp) _
  have HX : Hid (∀ w', Below W0.heap.size W0 w' → w'.heap[w.heap.size]? = some (.cells #[.int .i64 5, .int .i64 fr, .int .i64 to, .int .i64 tm, .int .i64 ix, .int .i64 lt, .int .i64 cm, .int .i64 hi, .int .i64 cx, .bool rj, .slice ea es.length ec, .int .i64 si, .int .i64 st, .slice sa sd.length sc] 95 (0, 0))) := fun w' hB => by
    refine (hB.block _ (by rw [← hW0]; simp)).trans ?_
    rw [← hW0]; exact World.alloc_heap_new w _
  have HS0 : Hid (W0.heap.size = w.heap.size + 1) := by show W0.heap.size = _; rw [← hW0]; simp
  clear hW0
  have HEE : Hid (EntsAt N W0 ea es) := hE.below (HB0.out.mono hN)
  have HSD : Hid (Sl N W0 (.slice sa sd.length sc) sd) := hD.below (HB0.out.mono hN)
  have hNW : N ≤ W0.heap.size := by have := HS0.out; omega
  clear hE hD
  obtain ⟨bl, hbl⟩ : ∃ bl, blank ix lt 0 hi 0 rj es.length si st sd.length = bl := ⟨_, rfl⟩
  rw [hbl]
  have HSM : Hid (∀ w1, Below W0.heap.size W0 w1 → Calls Try.prog 53 #[.agg #[.int .i64 5, .int .i64 fr, .int .i64 to, .int .i64 tm, .int .i64 ix, .int .i64 lt, .int .i64 cm, .int .i64 hi, .int .i64 cx, .bool rj, .slice ea es.length ec, .int .i64 si, .int .i64 st, .slice sa sd.length sc], .agg #[.int .i64 5, .int .i64 fr, .int .i64 to, .int .i64 tm, .int .i64 0, .int .i64 0, .int .i64 cm, .int .i64 0, .int .i64 cx, .bool false, .slice none 0 0, .int .i64 0, .int .i64 0, .slice none 0 0]] w1 fun e w' => e = .returned (.bool bl) ∧ Below w1.heap.size w1 w') := fun w1 hB1 => by
    have hS := sameMsg_any 5 fr to tm ix lt cm hi cx rj ea ec es si st sa sc sd 5 fr to tm 0 0 cm 0 cx false none 0 [] 0 0 none 0 [] N w1 (HEE.out.below (hB1.mono hNW)) (.inl rfl) (HSD.out.below (hB1.mono hNW)) (Sl.nil _ _) (by have := hB1.size; omega) hz
    rw [(blankR5 fr to tm ix lt cm hi cx rj ea ec es si st sa sc sd).trans hbl] at hS
    exact hS
  clear hbl
  obtain ⟨E, HE⟩ : ∃ E : Nat, Hid ((if fr = to then 4 else if bl = false then 4 else 0) = E) := ⟨_, rfl⟩
  rw [HE.out]
  go_enter Try.func50, Try.ntmps50
  go_wp2_with (first
    | (go_at_call 62; refine (refWithin_any _ _ _ _).mono ?_; rintro e w' ⟨rfl, hw⟩; subst w'; simp only [inK, g0, g1, g2])
    | (go_at_call 91; refine (number_any _ _).mono ?_; rintro e w' ⟨rfl, hw⟩; subst w'; simp only [g3, g4, g5, g6, g7]))
  rw [HW0.out]
  obtain ⟨⟨q0, q1, q2, q3, q4, q5, q6, q7, q8, q9, q10, q11, q12, q13⟩, -⟩ := cells14 (HX.out _ (Below.refl _ _))
  have hlw0 : w.heap.size < W0.heap.size := by have := HS0.out; omega
  go_region_held3 (fun w' => w'.cell? ⟨w.heap.size, 0, none⟩ = some (.int .i64 5) ∧ w'.cell? ⟨w.heap.size, 1, none⟩ = some (.int .i64 fr) ∧ w'.cell? ⟨w.heap.size, 2, none⟩ = some (.int .i64 to) ∧ w'.cell? ⟨w.heap.size, 3, none⟩ = some (.int .i64 tm) ∧ w'.cell? ⟨w.heap.size, 4, none⟩ = some (.int .i64 ix) ∧ w'.cell? ⟨w.heap.size, 5, none⟩ = some (.int .i64 lt) ∧ w'.cell? ⟨w.heap.size, 6, none⟩ = some (.int .i64 cm) ∧ w'.cell? ⟨w.heap.size, 7, none⟩ = some (.int .i64 hi) ∧ w'.cell? ⟨w.heap.size, 8, none⟩ = some (.int .i64 cx) ∧ w'.cell? ⟨w.heap.size, 9, none⟩ = some (.bool rj) ∧ w'.cell? ⟨w.heap.size, 10, none⟩ = some (.slice ea es.length ec) ∧ w'.cell? ⟨w.heap.size, 11, none⟩ = some (.int .i64 si) ∧ w'.cell? ⟨w.heap.size, 12, none⟩ = some (.int .i64 st) ∧ w'.cell? ⟨w.heap.size, 13, none⟩ = some (.slice sa sd.length sc)) (go_keep)
    (first
      | (go_at_call 92; refine (used5_any _ _ _ _ _ _ _ _ _ _ _ _ _ _ _ _ _ _).mono ?_; rintro e w1 ⟨rfl, hB1d⟩; have hB1 : Below W0.heap.size W0 w1 := ⟨hB1d.os, hB1d.tape, hB1d.output, hB1d.size, hB1d.block⟩; obtain ⟨⟨q0, q1, q2, q3, q4, q5, q6, q7, q8, q9, q10, q11, q12, q13⟩, -⟩ := cells14 (HX.out _ hB1))
      | (go_at_call 53; refine (HSM.out _ hB1).mono ?_; rintro e w2 ⟨rfl, hB2⟩; have hB2' := hB1.trans (hB2.mono hB1.size); obtain ⟨⟨q0, q1, q2, q3, q4, q5, q6, q7, q8, q9, q10, q11, q12, q13⟩, -⟩ := cells14 (HX.out _ hB2')))
  have hlw2 : w.heap.size < w2.heap.size := by have := hB2'.size; have := HS0.out; omega
  clear HSM
  by_cases hE : fr = to
  case pos =>
    obtain rfl : E = 4 := by rw [← HE.out, if_pos hE]
    clear HE
    subst hE
    go_wp2
    go_returns
    exact ⟨rfl, HB0.out.trans (hB2'.mono HB0.out.size)⟩
  have hE' : (fr == to) = false := by simpa using hE
  cases bl
  case false =>
    obtain rfl : E = 4 := by rw [← HE.out, if_neg hE, if_pos rfl]
    clear HE
    go_wp2
    go_returns
    exact ⟨rfl, HB0.out.trans (hB2'.mono HB0.out.size)⟩
  have hT : 0 = E := by have := HE.out; rw [if_neg hE, if_neg (by simp)] at this; exact this
  clear HE
  have HT : Hid (0 = E) := hT
  clear hT
  obtain rfl : E = 0 := HT.out.symm
  clear HT
  go_wp2
  go_returns
  exact ⟨rfl, HB0.out.trans (hB2'.mono HB0.out.size)⟩

theorem blankR6 (fr to tm ix lt cm hi cx : Int) (rj : Bool) (ea : Option Addr) (ec : Nat) (es : List Ent) (si st : Int) (sa : Option Addr) (sc : Nat) (sd : List UInt8) : ((((6 : Int) == 6) && (fr == fr) && (to == to) && (tm == tm)) && (decide (sd = []) && (si == 0) && (st == 0)) && decide (saysOf es = saysOf []) && (ix == 0) && (lt == 0) && (cm == 0) && (hi == 0) && (cx == cx) && (rj == false)) = blank ix lt cm hi 0 rj es.length si st sd.length := by
  rw [Bool.eq_iff_iff]
  simp [blank, saysOf]
  try (constructor <;> rintro h <;> simp_all)

set_option maxRecDepth 100000 in
set_option maxHeartbeats 8000000 in
theorem refChkM6_any (fr to tm ix lt cm hi cx : Int) (rj : Bool) (ea : Option Addr) (ec : Nat) (es : List Ent) (si st : Int) (sa : Option Addr) (sc : Nat) (sd : List UInt8) (N : Nat) (w : World) (hE : EntsAt N w ea es) (hD : Sl N w (.slice sa sd.length sc) sd) (hN : N ≤ w.heap.size) (hz : es.length ≤ 1000000) : Calls Try.prog 50 #[.agg #[.int .i64 6, .int .i64 fr, .int .i64 to, .int .i64 tm, .int .i64 ix, .int .i64 lt, .int .i64 cm, .int .i64 hi, .int .i64 cx, .bool rj, .slice ea es.length ec, .int .i64 si, .int .i64 st, .slice sa sd.length sc]] w fun e w' => e = .returned (.int .i64 (ckM6 fr to tm ix lt cm hi cx rj es.length si st sd.length : Int)) ∧ Below w.heap.size w w' := by
  have inK : isIn 6 1 7 = true := by decide
  unfold ckM6
  by_cases hR : msgRange fr to tm ix lt cm hi cx = true
  case neg =>
    simp only [Bool.not_eq_true] at hR
    rw [if_pos hR]
    exact refRangeNo_any 6 fr to tm ix lt cm hi cx rj ea es.length ec si st sa sd.length sc w inK hR
  rw [if_neg (by simp [hR])]
  have hR' := hR
  unfold msgRange at hR'
  simp only [Bool.and_eq_true] at hR'
  obtain ⟨⟨⟨⟨⟨⟨⟨g0, g1⟩, g2⟩, g3⟩, g4⟩, g5⟩, g6⟩, g7⟩ := hR'
  obtain ⟨W0, hW0⟩ : ∃ W0, w.alloc (.cells #[.int .i64 6, .int .i64 fr, .int .i64 to, .int .i64 tm, .int .i64 ix, .int .i64 lt, .int .i64 cm, .int .i64 hi, .int .i64 cx, .bool rj, .slice ea es.length ec, .int .i64 si, .int .i64 st, .slice sa sd.length sc] 95) = W0 := ⟨_, rfl⟩
  have HW0 : Hid (w.alloc (.cells #[.int .i64 6, .int .i64 fr, .int .i64 to, .int .i64 tm, .int .i64 ix, .int .i64 lt, .int .i64 cm, .int .i64 hi, .int .i64 cx, .bool rj, .slice ea es.length ec, .int .i64 si, .int .i64 st, .slice sa sd.length sc] 95) = W0) := hW0
  have HB0 : Hid (Below w.heap.size w W0) := by show Below w.heap.size w W0; rw [← hW0]; exact (Below.refl _ w).alloc (by simp) _
  have HX : Hid (∀ w', Below W0.heap.size W0 w' → w'.heap[w.heap.size]? = some (.cells #[.int .i64 6, .int .i64 fr, .int .i64 to, .int .i64 tm, .int .i64 ix, .int .i64 lt, .int .i64 cm, .int .i64 hi, .int .i64 cx, .bool rj, .slice ea es.length ec, .int .i64 si, .int .i64 st, .slice sa sd.length sc] 95 (0, 0))) := fun w' hB => by
    refine (hB.block _ (by rw [← hW0]; simp)).trans ?_
    rw [← hW0]; exact World.alloc_heap_new w _
  have HS0 : Hid (W0.heap.size = w.heap.size + 1) := by show W0.heap.size = _; rw [← hW0]; simp
  clear hW0
  have HEE : Hid (EntsAt N W0 ea es) := hE.below (HB0.out.mono hN)
  have HSD : Hid (Sl N W0 (.slice sa sd.length sc) sd) := hD.below (HB0.out.mono hN)
  have hNW : N ≤ W0.heap.size := by have := HS0.out; omega
  clear hE hD
  obtain ⟨bl, hbl⟩ : ∃ bl, blank ix lt cm hi 0 rj es.length si st sd.length = bl := ⟨_, rfl⟩
  rw [hbl]
  have HSM : Hid (∀ w1, Below W0.heap.size W0 w1 → Calls Try.prog 53 #[.agg #[.int .i64 6, .int .i64 fr, .int .i64 to, .int .i64 tm, .int .i64 ix, .int .i64 lt, .int .i64 cm, .int .i64 hi, .int .i64 cx, .bool rj, .slice ea es.length ec, .int .i64 si, .int .i64 st, .slice sa sd.length sc], .agg #[.int .i64 6, .int .i64 fr, .int .i64 to, .int .i64 tm, .int .i64 0, .int .i64 0, .int .i64 0, .int .i64 0, .int .i64 cx, .bool false, .slice none 0 0, .int .i64 0, .int .i64 0, .slice none 0 0]] w1 fun e w' => e = .returned (.bool bl) ∧ Below w1.heap.size w1 w') := fun w1 hB1 => by
    have hS := sameMsg_any 6 fr to tm ix lt cm hi cx rj ea ec es si st sa sc sd 6 fr to tm 0 0 0 0 cx false none 0 [] 0 0 none 0 [] N w1 (HEE.out.below (hB1.mono hNW)) (.inl rfl) (HSD.out.below (hB1.mono hNW)) (Sl.nil _ _) (by have := hB1.size; omega) hz
    rw [(blankR6 fr to tm ix lt cm hi cx rj ea ec es si st sa sc sd).trans hbl] at hS
    exact hS
  clear hbl
  obtain ⟨E, HE⟩ : ∃ E : Nat, Hid ((if fr = to then 4 else if bl = false then 4 else 0) = E) := ⟨_, rfl⟩
  rw [HE.out]
  go_enter Try.func50, Try.ntmps50
  go_wp2_with (first
    | (go_at_call 62; refine (refWithin_any _ _ _ _).mono ?_; rintro e w' ⟨rfl, hw⟩; subst w'; simp only [inK, g0, g1, g2])
    | (go_at_call 91; refine (number_any _ _).mono ?_; rintro e w' ⟨rfl, hw⟩; subst w'; simp only [g3, g4, g5, g6, g7]))
  rw [HW0.out]
  obtain ⟨⟨q0, q1, q2, q3, q4, q5, q6, q7, q8, q9, q10, q11, q12, q13⟩, -⟩ := cells14 (HX.out _ (Below.refl _ _))
  have hlw0 : w.heap.size < W0.heap.size := by have := HS0.out; omega
  go_region_held3 (fun w' => w'.cell? ⟨w.heap.size, 0, none⟩ = some (.int .i64 6) ∧ w'.cell? ⟨w.heap.size, 1, none⟩ = some (.int .i64 fr) ∧ w'.cell? ⟨w.heap.size, 2, none⟩ = some (.int .i64 to) ∧ w'.cell? ⟨w.heap.size, 3, none⟩ = some (.int .i64 tm) ∧ w'.cell? ⟨w.heap.size, 4, none⟩ = some (.int .i64 ix) ∧ w'.cell? ⟨w.heap.size, 5, none⟩ = some (.int .i64 lt) ∧ w'.cell? ⟨w.heap.size, 6, none⟩ = some (.int .i64 cm) ∧ w'.cell? ⟨w.heap.size, 7, none⟩ = some (.int .i64 hi) ∧ w'.cell? ⟨w.heap.size, 8, none⟩ = some (.int .i64 cx) ∧ w'.cell? ⟨w.heap.size, 9, none⟩ = some (.bool rj) ∧ w'.cell? ⟨w.heap.size, 10, none⟩ = some (.slice ea es.length ec) ∧ w'.cell? ⟨w.heap.size, 11, none⟩ = some (.int .i64 si) ∧ w'.cell? ⟨w.heap.size, 12, none⟩ = some (.int .i64 st) ∧ w'.cell? ⟨w.heap.size, 13, none⟩ = some (.slice sa sd.length sc)) (go_keep)
    (first
      | (go_at_call 92; refine (used6_any _ _ _ _ _ _ _ _ _ _ _ _ _ _ _ _ _ _).mono ?_; rintro e w1 ⟨rfl, hB1d⟩; have hB1 : Below W0.heap.size W0 w1 := ⟨hB1d.os, hB1d.tape, hB1d.output, hB1d.size, hB1d.block⟩; obtain ⟨⟨q0, q1, q2, q3, q4, q5, q6, q7, q8, q9, q10, q11, q12, q13⟩, -⟩ := cells14 (HX.out _ hB1))
      | (go_at_call 53; refine (HSM.out _ hB1).mono ?_; rintro e w2 ⟨rfl, hB2⟩; have hB2' := hB1.trans (hB2.mono hB1.size); obtain ⟨⟨q0, q1, q2, q3, q4, q5, q6, q7, q8, q9, q10, q11, q12, q13⟩, -⟩ := cells14 (HX.out _ hB2')))
  have hlw2 : w.heap.size < w2.heap.size := by have := hB2'.size; have := HS0.out; omega
  clear HSM
  by_cases hE : fr = to
  case pos =>
    obtain rfl : E = 4 := by rw [← HE.out, if_pos hE]
    clear HE
    subst hE
    go_wp2
    go_returns
    exact ⟨rfl, HB0.out.trans (hB2'.mono HB0.out.size)⟩
  have hE' : (fr == to) = false := by simpa using hE
  cases bl
  case false =>
    obtain rfl : E = 4 := by rw [← HE.out, if_neg hE, if_pos rfl]
    clear HE
    go_wp2
    go_returns
    exact ⟨rfl, HB0.out.trans (hB2'.mono HB0.out.size)⟩
  have hT : 0 = E := by have := HE.out; rw [if_neg hE, if_neg (by simp)] at this; exact this
  clear HE
  have HT : Hid (0 = E) := hT
  clear hT
  obtain rfl : E = 0 := HT.out.symm
  clear HT
  go_wp2
  go_returns
  exact ⟨rfl, HB0.out.trans (hB2'.mono HB0.out.size)⟩

end Go.Proofs.Ytfnnbfgfmbiabaa

/-
  The document's put of messages, kinds 5, 6.
-/
namespace Go.Proofs.Ytfnnbfgfmbiabaa
open Go.RowKit Go.Shelf

set_option linter.unusedVariables false

set_option maxRecDepth 100000 in
set_option maxHeartbeats 8000000 in
theorem refPutM5_any (fr to tm ix lt cm hi cx : Int) (rj : Bool) (ea : Option Addr) (ec : Nat) (es : List Ent) (si st : Int) (sa : Option Addr) (sc : Nat) (sd : List UInt8) (N : Nat) (w : World) (hE : EntsAt N w ea es) (hD : Sl N w (.slice sa sd.length sc) sd) (hN : N ≤ w.heap.size) (hz : es.length ≤ 1000000) : Calls Try.prog 48 #[.agg #[.int .i64 5, .int .i64 fr, .int .i64 to, .int .i64 tm, .int .i64 ix, .int .i64 lt, .int .i64 cm, .int .i64 hi, .int .i64 cx, .bool rj, .slice ea es.length ec, .int .i64 si, .int .i64 st, .slice sa sd.length sc]] w fun r w' =>
    ∃ u, r = .returned (.tuple #[u, .int .i64 (ckM5 fr to tm ix lt cm hi cx rj es.length si st sd.length : Int)]) ∧ Sl w'.heap.size w' u (if ckM5 fr to tm ix lt cm hi cx rj es.length si st sd.length = 0 then txM5 fr to tm cm cx else []) ∧ Below w.heap.size w w' := by
  have hbfr := numB_len fr.toNat
  have hbto := numB_len to.toNat
  have hbtm := numB_len tm.toNat
  have hbix := numB_len ix.toNat
  have hblt := numB_len lt.toNat
  have hbcm := numB_len cm.toNat
  have hbhi := numB_len hi.toNat
  have hbcx := numB_len cx.toNat
  have hbrj := numB_len (bN rj)
  have hb0 := numB_len 5
  obtain ⟨W0, hW0⟩ : ∃ W0, w.alloc (.cells #[.int .i64 5, .int .i64 fr, .int .i64 to, .int .i64 tm, .int .i64 ix, .int .i64 lt, .int .i64 cm, .int .i64 hi, .int .i64 cx, .bool rj, .slice ea es.length ec, .int .i64 si, .int .i64 st, .slice sa sd.length sc] 95) = W0 := ⟨_, rfl⟩
  have HW0 : Hid (w.alloc (.cells #[.int .i64 5, .int .i64 fr, .int .i64 to, .int .i64 tm, .int .i64 ix, .int .i64 lt, .int .i64 cm, .int .i64 hi, .int .i64 cx, .bool rj, .slice ea es.length ec, .int .i64 si, .int .i64 st, .slice sa sd.length sc] 95) = W0) := hW0
  have HB0 : Hid (Below w.heap.size w W0) := by show Below w.heap.size w W0; rw [← hW0]; exact (Below.refl _ w).alloc (by simp) _
  have HX : Hid (∀ w', Below W0.heap.size W0 w' → w'.heap[w.heap.size]? = some (.cells #[.int .i64 5, .int .i64 fr, .int .i64 to, .int .i64 tm, .int .i64 ix, .int .i64 lt, .int .i64 cm, .int .i64 hi, .int .i64 cx, .bool rj, .slice ea es.length ec, .int .i64 si, .int .i64 st, .slice sa sd.length sc] 95 (0, 0))) := fun w' hB => by
    refine (hB.block _ (by rw [← hW0]; simp)).trans ?_
    rw [← hW0]; exact World.alloc_heap_new w _
  have HS0 : Hid (W0.heap.size = w.heap.size + 1) := by show W0.heap.size = _; rw [← hW0]; simp
  clear hW0
  have hNW : N ≤ W0.heap.size := by have := HS0.out; omega
  have hck := refChkM5_any fr to tm ix lt cm hi cx rj ea ec es si st sa sc sd N W0 (hE.below (HB0.out.mono hN)) (hD.below (HB0.out.mono hN)) hNW hz
  by_cases hk : ckM5 fr to tm ix lt cm hi cx rj es.length si st sd.length = 0
  case neg =>
    rw [if_neg hk]
    generalize ckM5 fr to tm ix lt cm hi cx rj es.length si st sd.length = ke at *
    have hke : ((ke : Int) != 0) = true := by simp; omega
    go_enter Try.func48, Try.ntmps48
    go_wp2_with (go_at_call 50; rw [HW0.out]; refine hck.mono ?_; rintro e w1 ⟨rfl, hB1⟩)
    go_ret2
    exact ⟨_, rfl, Sl.nil _ _, HB0.out.trans (hB1.mono HB0.out.size)⟩
  rw [if_pos hk]
  obtain ⟨kfr, kto, ktm, kix, klt, kcm, khi, kcx⟩ := ckM5_ok hk
  have k0 : isNumB 5 = true := by decide
  rw [hk] at hck
  have HEE : Hid (EntsAt N W0 ea es) := hE.below (HB0.out.mono hN)
  have HSD : Hid (Sl N W0 (.slice sa sd.length sc) sd) := hD.below (HB0.out.mono hN)
  clear hE hD
  go_enter Try.func48, Try.ntmps48
  go_wp2_with (go_at_call 50; rw [HW0.out]; refine hck.mono ?_; rintro e w1 ⟨rfl, hB1⟩; obtain ⟨⟨q0, q1, q2, q3, q4, q5, q6, q7, q8, q9, q10, q11, q12, q13⟩, -⟩ := cells14 (HX.out _ hB1); have h2 := newV (w := w1); obtain ⟨⟨q0, q1, q2, q3, q4, q5, q6, q7, q8, q9, q10, q11, q12, q13⟩, -⟩ := cells14 (HX.out _ (hB1.trans (h2.bel.mono hB1.size))))
  refine (wvInt_any 5 h2 (by first | omega | (simp <;> omega)) k0).mono ?_
  rintro r w3 ⟨rfl, h3⟩
  obtain ⟨⟨q0, q1, q2, q3, q4, q5, q6, q7, q8, q9, q10, q11, q12, q13⟩, -⟩ := cells14 (HX.out _ (hB1.trans (h3.bel.mono hB1.size)))
  go_wp2_with fail
  refine (wvInt_any fr h3 (by first | omega | (simp <;> omega)) kfr).mono ?_
  rintro r w4 ⟨rfl, h4⟩
  obtain ⟨⟨q0, q1, q2, q3, q4, q5, q6, q7, q8, q9, q10, q11, q12, q13⟩, -⟩ := cells14 (HX.out _ (hB1.trans (h4.bel.mono hB1.size)))
  go_wp2_with fail
  refine (wvInt_any to h4 (by first | omega | (simp <;> omega)) kto).mono ?_
  rintro r w5 ⟨rfl, h5⟩
  obtain ⟨⟨q0, q1, q2, q3, q4, q5, q6, q7, q8, q9, q10, q11, q12, q13⟩, -⟩ := cells14 (HX.out _ (hB1.trans (h5.bel.mono hB1.size)))
  go_wp2_with fail
  refine (wvInt_any tm h5 (by first | omega | (simp <;> omega)) ktm).mono ?_
  rintro r w6 ⟨rfl, h6⟩
  obtain ⟨⟨q0, q1, q2, q3, q4, q5, q6, q7, q8, q9, q10, q11, q12, q13⟩, -⟩ := cells14 (HX.out _ (hB1.trans (h6.bel.mono hB1.size)))
  go_wp2_with fail
  refine (wvInt_any cm h6 (by first | omega | (simp <;> omega)) kcm).mono ?_
  rintro r w7 ⟨rfl, h7⟩
  obtain ⟨⟨q0, q1, q2, q3, q4, q5, q6, q7, q8, q9, q10, q11, q12, q13⟩, -⟩ := cells14 (HX.out _ (hB1.trans (h7.bel.mono hB1.size)))
  go_wp2_with fail
  refine (wvInt_any cx h7 (by first | omega | (simp <;> omega)) kcx).mono ?_
  rintro r w8 ⟨rfl, h8⟩
  obtain ⟨⟨q0, q1, q2, q3, q4, q5, q6, q7, q8, q9, q10, q11, q12, q13⟩, -⟩ := cells14 (HX.out _ (hB1.trans (h8.bel.mono hB1.size)))
  go_wp2_with fail
  refine (wvDone_any h8).mono ?_
  rintro r w9 ⟨u, rfl, hO9, hB9⟩
  go_wp2
  go_ret2
  refine ⟨u, by rw [hk]; rfl, ?_, HB0.out.trans ((hB1.trans (hB9.mono hB1.size)).mono HB0.out.size)⟩
  simpa [txM5, numB] using hO9

set_option maxRecDepth 100000 in
set_option maxHeartbeats 8000000 in
theorem refPutM6_any (fr to tm ix lt cm hi cx : Int) (rj : Bool) (ea : Option Addr) (ec : Nat) (es : List Ent) (si st : Int) (sa : Option Addr) (sc : Nat) (sd : List UInt8) (N : Nat) (w : World) (hE : EntsAt N w ea es) (hD : Sl N w (.slice sa sd.length sc) sd) (hN : N ≤ w.heap.size) (hz : es.length ≤ 1000000) : Calls Try.prog 48 #[.agg #[.int .i64 6, .int .i64 fr, .int .i64 to, .int .i64 tm, .int .i64 ix, .int .i64 lt, .int .i64 cm, .int .i64 hi, .int .i64 cx, .bool rj, .slice ea es.length ec, .int .i64 si, .int .i64 st, .slice sa sd.length sc]] w fun r w' =>
    ∃ u, r = .returned (.tuple #[u, .int .i64 (ckM6 fr to tm ix lt cm hi cx rj es.length si st sd.length : Int)]) ∧ Sl w'.heap.size w' u (if ckM6 fr to tm ix lt cm hi cx rj es.length si st sd.length = 0 then txM6 fr to tm cx else []) ∧ Below w.heap.size w w' := by
  have hbfr := numB_len fr.toNat
  have hbto := numB_len to.toNat
  have hbtm := numB_len tm.toNat
  have hbix := numB_len ix.toNat
  have hblt := numB_len lt.toNat
  have hbcm := numB_len cm.toNat
  have hbhi := numB_len hi.toNat
  have hbcx := numB_len cx.toNat
  have hbrj := numB_len (bN rj)
  have hb0 := numB_len 6
  obtain ⟨W0, hW0⟩ : ∃ W0, w.alloc (.cells #[.int .i64 6, .int .i64 fr, .int .i64 to, .int .i64 tm, .int .i64 ix, .int .i64 lt, .int .i64 cm, .int .i64 hi, .int .i64 cx, .bool rj, .slice ea es.length ec, .int .i64 si, .int .i64 st, .slice sa sd.length sc] 95) = W0 := ⟨_, rfl⟩
  have HW0 : Hid (w.alloc (.cells #[.int .i64 6, .int .i64 fr, .int .i64 to, .int .i64 tm, .int .i64 ix, .int .i64 lt, .int .i64 cm, .int .i64 hi, .int .i64 cx, .bool rj, .slice ea es.length ec, .int .i64 si, .int .i64 st, .slice sa sd.length sc] 95) = W0) := hW0
  have HB0 : Hid (Below w.heap.size w W0) := by show Below w.heap.size w W0; rw [← hW0]; exact (Below.refl _ w).alloc (by simp) _
  have HX : Hid (∀ w', Below W0.heap.size W0 w' → w'.heap[w.heap.size]? = some (.cells #[.int .i64 6, .int .i64 fr, .int .i64 to, .int .i64 tm, .int .i64 ix, .int .i64 lt, .int .i64 cm, .int .i64 hi, .int .i64 cx, .bool rj, .slice ea es.length ec, .int .i64 si, .int .i64 st, .slice sa sd.length sc] 95 (0, 0))) := fun w' hB => by
    refine (hB.block _ (by rw [← hW0]; simp)).trans ?_
    rw [← hW0]; exact World.alloc_heap_new w _
  have HS0 : Hid (W0.heap.size = w.heap.size + 1) := by show W0.heap.size = _; rw [← hW0]; simp
  clear hW0
  have hNW : N ≤ W0.heap.size := by have := HS0.out; omega
  have hck := refChkM6_any fr to tm ix lt cm hi cx rj ea ec es si st sa sc sd N W0 (hE.below (HB0.out.mono hN)) (hD.below (HB0.out.mono hN)) hNW hz
  by_cases hk : ckM6 fr to tm ix lt cm hi cx rj es.length si st sd.length = 0
  case neg =>
    rw [if_neg hk]
    generalize ckM6 fr to tm ix lt cm hi cx rj es.length si st sd.length = ke at *
    have hke : ((ke : Int) != 0) = true := by simp; omega
    go_enter Try.func48, Try.ntmps48
    go_wp2_with (go_at_call 50; rw [HW0.out]; refine hck.mono ?_; rintro e w1 ⟨rfl, hB1⟩)
    go_ret2
    exact ⟨_, rfl, Sl.nil _ _, HB0.out.trans (hB1.mono HB0.out.size)⟩
  rw [if_pos hk]
  obtain ⟨kfr, kto, ktm, kix, klt, kcm, khi, kcx⟩ := ckM6_ok hk
  have k0 : isNumB 6 = true := by decide
  rw [hk] at hck
  have HEE : Hid (EntsAt N W0 ea es) := hE.below (HB0.out.mono hN)
  have HSD : Hid (Sl N W0 (.slice sa sd.length sc) sd) := hD.below (HB0.out.mono hN)
  clear hE hD
  go_enter Try.func48, Try.ntmps48
  go_wp2_with (go_at_call 50; rw [HW0.out]; refine hck.mono ?_; rintro e w1 ⟨rfl, hB1⟩; obtain ⟨⟨q0, q1, q2, q3, q4, q5, q6, q7, q8, q9, q10, q11, q12, q13⟩, -⟩ := cells14 (HX.out _ hB1); have h2 := newV (w := w1); obtain ⟨⟨q0, q1, q2, q3, q4, q5, q6, q7, q8, q9, q10, q11, q12, q13⟩, -⟩ := cells14 (HX.out _ (hB1.trans (h2.bel.mono hB1.size))))
  refine (wvInt_any 6 h2 (by first | omega | (simp <;> omega)) k0).mono ?_
  rintro r w3 ⟨rfl, h3⟩
  obtain ⟨⟨q0, q1, q2, q3, q4, q5, q6, q7, q8, q9, q10, q11, q12, q13⟩, -⟩ := cells14 (HX.out _ (hB1.trans (h3.bel.mono hB1.size)))
  go_wp2_with fail
  refine (wvInt_any fr h3 (by first | omega | (simp <;> omega)) kfr).mono ?_
  rintro r w4 ⟨rfl, h4⟩
  obtain ⟨⟨q0, q1, q2, q3, q4, q5, q6, q7, q8, q9, q10, q11, q12, q13⟩, -⟩ := cells14 (HX.out _ (hB1.trans (h4.bel.mono hB1.size)))
  go_wp2_with fail
  refine (wvInt_any to h4 (by first | omega | (simp <;> omega)) kto).mono ?_
  rintro r w5 ⟨rfl, h5⟩
  obtain ⟨⟨q0, q1, q2, q3, q4, q5, q6, q7, q8, q9, q10, q11, q12, q13⟩, -⟩ := cells14 (HX.out _ (hB1.trans (h5.bel.mono hB1.size)))
  go_wp2_with fail
  refine (wvInt_any tm h5 (by first | omega | (simp <;> omega)) ktm).mono ?_
  rintro r w6 ⟨rfl, h6⟩
  obtain ⟨⟨q0, q1, q2, q3, q4, q5, q6, q7, q8, q9, q10, q11, q12, q13⟩, -⟩ := cells14 (HX.out _ (hB1.trans (h6.bel.mono hB1.size)))
  go_wp2_with fail
  refine (wvInt_any cx h6 (by first | omega | (simp <;> omega)) kcx).mono ?_
  rintro r w7 ⟨rfl, h7⟩
  obtain ⟨⟨q0, q1, q2, q3, q4, q5, q6, q7, q8, q9, q10, q11, q12, q13⟩, -⟩ := cells14 (HX.out _ (hB1.trans (h7.bel.mono hB1.size)))
  go_wp2_with fail
  refine (wvDone_any h7).mono ?_
  rintro r w9 ⟨u, rfl, hO9, hB9⟩
  go_wp2
  go_ret2
  refine ⟨u, by rw [hk]; rfl, ?_, HB0.out.trans ((hB1.trans (hB9.mono hB1.size)).mono HB0.out.size)⟩
  simpa [txM6, numB] using hO9

end Go.Proofs.Ytfnnbfgfmbiabaa

