/-
  RefC2.
-/
import Derived.Test.YtfnnbfgfmbiababJ32
import Derived.Test.YtfnnbfgfmbiababJ25
import Derived.Test.YtfnnbfgfmbiababJ28
import Derived.Test.YtfnnbfgfmbiababJ22
import Derived.Test.YtfnnbfgfmbiababJ37
/-
  The document's check of messages, kinds 2, 4.
-/
namespace Go.Proofs.Ytfnnbfgfmbiabab
open Go.RowKit Go.Shelf

set_option linter.unusedVariables false

theorem blankR2 (fr to tm ix lt cm hi cx : Int) (rj : Bool) (ea : Option Addr) (ec : Nat) (es : List Ent) (si st : Int) (sa : Option Addr) (sc : Nat) (sd : List UInt8) : ((((2 : Int) == 2) && (fr == fr) && (to == to) && (tm == tm)) && (decide (sd = []) && (si == 0) && (st == 0)) && decide (saysOf es = saysOf []) && (ix == 0) && (lt == 0) && (cm == 0) && (hi == 0) && (cx == 0) && (rj == rj)) = blank ix lt cm hi cx false es.length si st sd.length := by
  rw [Bool.eq_iff_iff]
  simp [blank, saysOf]
  try (constructor <;> rintro h <;> simp_all)

set_option maxRecDepth 100000 in
set_option maxHeartbeats 8000000 in
theorem refChkM2_any (fr to tm ix lt cm hi cx : Int) (rj : Bool) (ea : Option Addr) (ec : Nat) (es : List Ent) (si st : Int) (sa : Option Addr) (sc : Nat) (sd : List UInt8) (N : Nat) (w : World) (hE : EntsAt N w ea es) (hD : Sl N w (.slice sa sd.length sc) sd) (hN : N ≤ w.heap.size) (hz : es.length ≤ 1000000) : Calls Try.prog 19 #[.agg #[.int .i64 2, .int .i64 fr, .int .i64 to, .int .i64 tm, .int .i64 ix, .int .i64 lt, .int .i64 cm, .int .i64 hi, .int .i64 cx, .bool rj, .slice ea es.length ec, .int .i64 si, .int .i64 st, .slice sa sd.length sc]] w fun e w' => e = .returned (.int .i64 (ckM2 fr to tm ix lt cm hi cx rj es.length si st sd.length : Int)) ∧ Below w.heap.size w w' := by
  have inK : isIn 2 1 7 = true := by decide
  unfold ckM2
  by_cases hR : msgRange fr to tm ix lt cm hi cx = true
  case neg =>
    simp only [Bool.not_eq_true] at hR
    rw [if_pos hR]
    exact refRangeNo_any 2 fr to tm ix lt cm hi cx rj ea es.length ec si st sa sd.length sc w inK hR
  rw [if_neg (by simp [hR])]
  have hR' := hR
  unfold msgRange at hR'
  simp only [Bool.and_eq_true] at hR'
  obtain ⟨⟨⟨⟨⟨⟨⟨g0, g1⟩, g2⟩, g3⟩, g4⟩, g5⟩, g6⟩, g7⟩ := hR'
  obtain ⟨W0, hW0⟩ : ∃ W0, w.alloc (.cells #[.int .i64 2, .int .i64 fr, .int .i64 to, .int .i64 tm, .int .i64 ix, .int .i64 lt, .int .i64 cm, .int .i64 hi, .int .i64 cx, .bool rj, .slice ea es.length ec, .int .i64 si, .int .i64 st, .slice sa sd.length sc] 49) = W0 := ⟨_, rfl⟩
  have HW0 : Hid (w.alloc (.cells #[.int .i64 2, .int .i64 fr, .int .i64 to, .int .i64 tm, .int .i64 ix, .int .i64 lt, .int .i64 cm, .int .i64 hi, .int .i64 cx, .bool rj, .slice ea es.length ec, .int .i64 si, .int .i64 st, .slice sa sd.length sc] 49) = W0) := hW0
  have HB0 : Hid (Below w.heap.size w W0) := by show Below w.heap.size w W0; rw [← hW0]; exact (Below.refl _ w).alloc (by simp) _
  have HX : Hid (∀ w', Below W0.heap.size W0 w' → w'.heap[w.heap.size]? = some (.cells #[.int .i64 2, .int .i64 fr, .int .i64 to, .int .i64 tm, .int .i64 ix, .int .i64 lt, .int .i64 cm, .int .i64 hi, .int .i64 cx, .bool rj, .slice ea es.length ec, .int .i64 si, .int .i64 st, .slice sa sd.length sc] 49 (0, 0))) := fun w' hB => by
    refine (hB.block _ (by rw [← hW0]; simp)).trans ?_
    rw [← hW0]; exact World.alloc_heap_new w _
  have HS0 : Hid (W0.heap.size = w.heap.size + 1) := by show W0.heap.size = _; rw [← hW0]; simp
  clear hW0
  have HEE : Hid (EntsAt N W0 ea es) := hE.below (HB0.out.mono hN)
  have HSD : Hid (Sl N W0 (.slice sa sd.length sc) sd) := hD.below (HB0.out.mono hN)
  have hNW : N ≤ W0.heap.size := by have := HS0.out; omega
  clear hE hD
  obtain ⟨bl, hbl⟩ : ∃ bl, blank ix lt cm hi cx false es.length si st sd.length = bl := ⟨_, rfl⟩
  rw [hbl]
  have HSM : Hid (∀ w1, Below W0.heap.size W0 w1 → Calls Try.prog 18 #[.agg #[.int .i64 2, .int .i64 fr, .int .i64 to, .int .i64 tm, .int .i64 ix, .int .i64 lt, .int .i64 cm, .int .i64 hi, .int .i64 cx, .bool rj, .slice ea es.length ec, .int .i64 si, .int .i64 st, .slice sa sd.length sc], .agg #[.int .i64 2, .int .i64 fr, .int .i64 to, .int .i64 tm, .int .i64 0, .int .i64 0, .int .i64 0, .int .i64 0, .int .i64 0, .bool rj, .slice none 0 0, .int .i64 0, .int .i64 0, .slice none 0 0]] w1 fun e w' => e = .returned (.bool bl) ∧ Below w1.heap.size w1 w') := fun w1 hB1 => by
    have hS := sameMsg_any 2 fr to tm ix lt cm hi cx rj ea ec es si st sa sc sd 2 fr to tm 0 0 0 0 0 rj none 0 [] 0 0 none 0 [] N w1 (HEE.out.below (hB1.mono hNW)) (.inl rfl) (HSD.out.below (hB1.mono hNW)) (Sl.nil _ _) (by have := hB1.size; omega) hz
    rw [(blankR2 fr to tm ix lt cm hi cx rj ea ec es si st sa sc sd).trans hbl] at hS
    exact hS
  clear hbl
  obtain ⟨E, HE⟩ : ∃ E : Nat, Hid ((if fr = to then 4 else if bl = false then 4 else 0) = E) := ⟨_, rfl⟩
  rw [HE.out]
  go_enter Try.func19, Try.ntmps19
  go_wp2_with (first
    | (go_at_call 44; refine (refWithin_any _ _ _ _).mono ?_; rintro e w' ⟨rfl, hw⟩; subst w'; simp only [inK, g0, g1, g2])
    | (go_at_call 46; refine (number_any _ _).mono ?_; rintro e w' ⟨rfl, hw⟩; subst w'; simp only [g3, g4, g5, g6, g7]))
  rw [HW0.out]
  obtain ⟨⟨q0, q1, q2, q3, q4, q5, q6, q7, q8, q9, q10, q11, q12, q13⟩, -⟩ := cells14 (HX.out _ (Below.refl _ _))
  have hlw0 : w.heap.size < W0.heap.size := by have := HS0.out; omega
  go_region_held3 (fun w' => w'.cell? ⟨w.heap.size, 0, none⟩ = some (.int .i64 2) ∧ w'.cell? ⟨w.heap.size, 1, none⟩ = some (.int .i64 fr) ∧ w'.cell? ⟨w.heap.size, 2, none⟩ = some (.int .i64 to) ∧ w'.cell? ⟨w.heap.size, 3, none⟩ = some (.int .i64 tm) ∧ w'.cell? ⟨w.heap.size, 4, none⟩ = some (.int .i64 ix) ∧ w'.cell? ⟨w.heap.size, 5, none⟩ = some (.int .i64 lt) ∧ w'.cell? ⟨w.heap.size, 6, none⟩ = some (.int .i64 cm) ∧ w'.cell? ⟨w.heap.size, 7, none⟩ = some (.int .i64 hi) ∧ w'.cell? ⟨w.heap.size, 8, none⟩ = some (.int .i64 cx) ∧ w'.cell? ⟨w.heap.size, 9, none⟩ = some (.bool rj) ∧ w'.cell? ⟨w.heap.size, 10, none⟩ = some (.slice ea es.length ec) ∧ w'.cell? ⟨w.heap.size, 11, none⟩ = some (.int .i64 si) ∧ w'.cell? ⟨w.heap.size, 12, none⟩ = some (.int .i64 st) ∧ w'.cell? ⟨w.heap.size, 13, none⟩ = some (.slice sa sd.length sc)) (go_keep)
    (first
      | (go_at_call 47; refine (used2_any _ _ _ _ _ _ _ _ _ _ _ _ _ _ _ _ _ _).mono ?_; rintro e w1 ⟨rfl, hB1d⟩; have hB1 : Below W0.heap.size W0 w1 := ⟨hB1d.os, hB1d.tape, hB1d.output, hB1d.size, hB1d.block⟩; obtain ⟨⟨q0, q1, q2, q3, q4, q5, q6, q7, q8, q9, q10, q11, q12, q13⟩, -⟩ := cells14 (HX.out _ hB1))
      | (go_at_call 18; refine (HSM.out _ hB1).mono ?_; rintro e w2 ⟨rfl, hB2⟩; have hB2' := hB1.trans (hB2.mono hB1.size); obtain ⟨⟨q0, q1, q2, q3, q4, q5, q6, q7, q8, q9, q10, q11, q12, q13⟩, -⟩ := cells14 (HX.out _ hB2')))
  have hlw2 : w.heap.size < w2.heap.size := by have := hB2'.size; have := HS0.out; omega
  clear HSM
  by_cases hE : fr = to
  case pos =>
    obtain rfl : E = 4 := by rw [← HE.out, if_pos hE]
    clear HE
    subst hE
    go_wp2
    go_returns
    exact ⟨rfl, HB0.out.trans (hB2'.mono HB0.out.size)⟩
  have hE' : (fr == to) = false := by simpa using hE
  cases bl
  case false =>
    obtain rfl : E = 4 := by rw [← HE.out, if_neg hE, if_pos rfl]
    clear HE
    go_wp2
    go_returns
    exact ⟨rfl, HB0.out.trans (hB2'.mono HB0.out.size)⟩
  have hT : 0 = E := by have := HE.out; rw [if_neg hE, if_neg (by simp)] at this; exact this
  clear HE
  have HT : Hid (0 = E) := hT
  clear hT
  obtain rfl : E = 0 := HT.out.symm
  clear HT
  go_wp2
  go_returns
  exact ⟨rfl, HB0.out.trans (hB2'.mono HB0.out.size)⟩

theorem blankR4 (fr to tm ix lt cm hi cx : Int) (rj : Bool) (ea : Option Addr) (ec : Nat) (es : List Ent) (si st : Int) (sa : Option Addr) (sc : Nat) (sd : List UInt8) : ((((4 : Int) == 4) && (fr == fr) && (to == to) && (tm == tm)) && (decide (sd = []) && (si == 0) && (st == 0)) && decide (saysOf es = saysOf []) && (ix == ix) && (lt == 0) && (cm == 0) && (hi == hi) && (cx == 0) && (rj == rj)) = blank 0 lt cm 0 cx false es.length si st sd.length := by
  rw [Bool.eq_iff_iff]
  simp [blank, saysOf]
  try (constructor <;> rintro h <;> simp_all)

set_option maxRecDepth 100000 in
set_option maxHeartbeats 8000000 in
theorem refChkM4_any (fr to tm ix lt cm hi cx : Int) (rj : Bool) (ea : Option Addr) (ec : Nat) (es : List Ent) (si st : Int) (sa : Option Addr) (sc : Nat) (sd : List UInt8) (N : Nat) (w : World) (hE : EntsAt N w ea es) (hD : Sl N w (.slice sa sd.length sc) sd) (hN : N ≤ w.heap.size) (hz : es.length ≤ 1000000) : Calls Try.prog 19 #[.agg #[.int .i64 4, .int .i64 fr, .int .i64 to, .int .i64 tm, .int .i64 ix, .int .i64 lt, .int .i64 cm, .int .i64 hi, .int .i64 cx, .bool rj, .slice ea es.length ec, .int .i64 si, .int .i64 st, .slice sa sd.length sc]] w fun e w' => e = .returned (.int .i64 (ckM4 fr to tm ix lt cm hi cx rj es.length si st sd.length : Int)) ∧ Below w.heap.size w w' := by
  have inK : isIn 4 1 7 = true := by decide
  unfold ckM4
  by_cases hR : msgRange fr to tm ix lt cm hi cx = true
  case neg =>
    simp only [Bool.not_eq_true] at hR
    rw [if_pos hR]
    exact refRangeNo_any 4 fr to tm ix lt cm hi cx rj ea es.length ec si st sa sd.length sc w inK hR
  rw [if_neg (by simp [hR])]
  have hR' := hR
  unfold msgRange at hR'
  simp only [Bool.and_eq_true] at hR'
  obtain ⟨⟨⟨⟨⟨⟨⟨g0, g1⟩, g2⟩, g3⟩, g4⟩, g5⟩, g6⟩, g7⟩ := hR'
  obtain ⟨W0, hW0⟩ : ∃ W0, w.alloc (.cells #[.int .i64 4, .int .i64 fr, .int .i64 to, .int .i64 tm, .int .i64 ix, .int .i64 lt, .int .i64 cm, .int .i64 hi, .int .i64 cx, .bool rj, .slice ea es.length ec, .int .i64 si, .int .i64 st, .slice sa sd.length sc] 49) = W0 := ⟨_, rfl⟩
  have HW0 : Hid (w.alloc (.cells #[.int .i64 4, .int .i64 fr, .int .i64 to, .int .i64 tm, .int .i64 ix, .int .i64 lt, .int .i64 cm, .int .i64 hi, .int .i64 cx, .bool rj, .slice ea es.length ec, .int .i64 si, .int .i64 st, .slice sa sd.length sc] 49) = W0) := hW0
  have HB0 : Hid (Below w.heap.size w W0) := by show Below w.heap.size w W0; rw [← hW0]; exact (Below.refl _ w).alloc (by simp) _
  have HX : Hid (∀ w', Below W0.heap.size W0 w' → w'.heap[w.heap.size]? = some (.cells #[.int .i64 4, .int .i64 fr, .int .i64 to, .int .i64 tm, .int .i64 ix, .int .i64 lt, .int .i64 cm, .int .i64 hi, .int .i64 cx, .bool rj, .slice ea es.length ec, .int .i64 si, .int .i64 st, .slice sa sd.length sc] 49 (0, 0))) := fun w' hB => by
    refine (hB.block _ (by rw [← hW0]; simp)).trans ?_
    rw [← hW0]; exact World.alloc_heap_new w _
  have HS0 : Hid (W0.heap.size = w.heap.size + 1) := by show W0.heap.size = _; rw [← hW0]; simp
  clear hW0
  have HEE : Hid (EntsAt N W0 ea es) := hE.below (HB0.out.mono hN)
  have HSD : Hid (Sl N W0 (.slice sa sd.length sc) sd) := hD.below (HB0.out.mono hN)
  have hNW : N ≤ W0.heap.size := by have := HS0.out; omega
  clear hE hD
  obtain ⟨bl, hbl⟩ : ∃ bl, blank 0 lt cm 0 cx false es.length si st sd.length = bl := ⟨_, rfl⟩
  rw [hbl]
  have HSM : Hid (∀ w1, Below W0.heap.size W0 w1 → Calls Try.prog 18 #[.agg #[.int .i64 4, .int .i64 fr, .int .i64 to, .int .i64 tm, .int .i64 ix, .int .i64 lt, .int .i64 cm, .int .i64 hi, .int .i64 cx, .bool rj, .slice ea es.length ec, .int .i64 si, .int .i64 st, .slice sa sd.length sc], .agg #[.int .i64 4, .int .i64 fr, .int .i64 to, .int .i64 tm, .int .i64 ix, .int .i64 0, .int .i64 0, .int .i64 hi, .int .i64 0, .bool rj, .slice none 0 0, .int .i64 0, .int .i64 0, .slice none 0 0]] w1 fun e w' => e = .returned (.bool bl) ∧ Below w1.heap.size w1 w') := fun w1 hB1 => by
    have hS := sameMsg_any 4 fr to tm ix lt cm hi cx rj ea ec es si st sa sc sd 4 fr to tm ix 0 0 hi 0 rj none 0 [] 0 0 none 0 [] N w1 (HEE.out.below (hB1.mono hNW)) (.inl rfl) (HSD.out.below (hB1.mono hNW)) (Sl.nil _ _) (by have := hB1.size; omega) hz
    rw [(blankR4 fr to tm ix lt cm hi cx rj ea ec es si st sa sc sd).trans hbl] at hS
    exact hS
  clear hbl
  obtain ⟨E, HE⟩ : ∃ E : Nat, Hid ((if fr = to then 4 else if bl = false then 4 else fI ((hi != 0) && !rj)) = E) := ⟨_, rfl⟩
  rw [HE.out]
  go_enter Try.func19, Try.ntmps19
  go_wp2_with (first
    | (go_at_call 44; refine (refWithin_any _ _ _ _).mono ?_; rintro e w' ⟨rfl, hw⟩; subst w'; simp only [inK, g0, g1, g2])
    | (go_at_call 46; refine (number_any _ _).mono ?_; rintro e w' ⟨rfl, hw⟩; subst w'; simp only [g3, g4, g5, g6, g7]))
  rw [HW0.out]
  obtain ⟨⟨q0, q1, q2, q3, q4, q5, q6, q7, q8, q9, q10, q11, q12, q13⟩, -⟩ := cells14 (HX.out _ (Below.refl _ _))
  have hlw0 : w.heap.size < W0.heap.size := by have := HS0.out; omega
  go_region_held3 (fun w' => w'.cell? ⟨w.heap.size, 0, none⟩ = some (.int .i64 4) ∧ w'.cell? ⟨w.heap.size, 1, none⟩ = some (.int .i64 fr) ∧ w'.cell? ⟨w.heap.size, 2, none⟩ = some (.int .i64 to) ∧ w'.cell? ⟨w.heap.size, 3, none⟩ = some (.int .i64 tm) ∧ w'.cell? ⟨w.heap.size, 4, none⟩ = some (.int .i64 ix) ∧ w'.cell? ⟨w.heap.size, 5, none⟩ = some (.int .i64 lt) ∧ w'.cell? ⟨w.heap.size, 6, none⟩ = some (.int .i64 cm) ∧ w'.cell? ⟨w.heap.size, 7, none⟩ = some (.int .i64 hi) ∧ w'.cell? ⟨w.heap.size, 8, none⟩ = some (.int .i64 cx) ∧ w'.cell? ⟨w.heap.size, 9, none⟩ = some (.bool rj) ∧ w'.cell? ⟨w.heap.size, 10, none⟩ = some (.slice ea es.length ec) ∧ w'.cell? ⟨w.heap.size, 11, none⟩ = some (.int .i64 si) ∧ w'.cell? ⟨w.heap.size, 12, none⟩ = some (.int .i64 st) ∧ w'.cell? ⟨w.heap.size, 13, none⟩ = some (.slice sa sd.length sc)) (go_keep)
    (first
      | (go_at_call 47; refine (used4_any _ _ _ _ _ _ _ _ _ _ _ _ _ _ _ _ _ _).mono ?_; rintro e w1 ⟨rfl, hB1d⟩; have hB1 : Below W0.heap.size W0 w1 := ⟨hB1d.os, hB1d.tape, hB1d.output, hB1d.size, hB1d.block⟩; obtain ⟨⟨q0, q1, q2, q3, q4, q5, q6, q7, q8, q9, q10, q11, q12, q13⟩, -⟩ := cells14 (HX.out _ hB1))
      | (go_at_call 18; refine (HSM.out _ hB1).mono ?_; rintro e w2 ⟨rfl, hB2⟩; have hB2' := hB1.trans (hB2.mono hB1.size); obtain ⟨⟨q0, q1, q2, q3, q4, q5, q6, q7, q8, q9, q10, q11, q12, q13⟩, -⟩ := cells14 (HX.out _ hB2')))
  have hlw2 : w.heap.size < w2.heap.size := by have := hB2'.size; have := HS0.out; omega
  clear HSM
  by_cases hE : fr = to
  case pos =>
    obtain rfl : E = 4 := by rw [← HE.out, if_pos hE]
    clear HE
    subst hE
    go_wp2
    go_returns
    exact ⟨rfl, HB0.out.trans (hB2'.mono HB0.out.size)⟩
  have hE' : (fr == to) = false := by simpa using hE
  cases bl
  case false =>
    obtain rfl : E = 4 := by rw [← HE.out, if_neg hE, if_pos rfl]
    clear HE
    go_wp2
    go_returns
    exact ⟨rfl, HB0.out.trans (hB2'.mono HB0.out.size)⟩
  have hT : fI ((hi != 0) && !rj) = E := by have := HE.out; rw [if_neg hE, if_neg (by simp)] at this; exact this
  clear HE
  have HT : Hid (fI ((hi != 0) && !rj) = E) := hT
  clear hT
  by_cases hH : hi = 0
  case pos =>
    obtain rfl : E = 0 := by rw [← HT.out, hH]; rfl
    clear HT
    subst hH
    go_wp2
    go_returns
    exact ⟨rfl, HB0.out.trans (hB2'.mono HB0.out.size)⟩
  have hH' : (hi != 0) = true := by simpa using hH
  cases rj
  · obtain rfl : E = 4 := by rw [← HT.out, hH']; rfl
    clear HT
    go_wp2
    go_returns
    exact ⟨rfl, HB0.out.trans (hB2'.mono HB0.out.size)⟩
  · obtain rfl : E = 0 := by rw [← HT.out, hH']; rfl
    clear HT
    go_wp2
    go_returns
    exact ⟨rfl, HB0.out.trans (hB2'.mono HB0.out.size)⟩

end Go.Proofs.Ytfnnbfgfmbiabab

