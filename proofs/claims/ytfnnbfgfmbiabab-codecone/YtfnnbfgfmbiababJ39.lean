/-
  RefC5; GetV.
-/
import Derived.Test.YtfnnbfgfmbiababJ32
import Derived.Test.YtfnnbfgfmbiababJ25
import Derived.Test.YtfnnbfgfmbiababJ22
import Derived.Test.YtfnnbfgfmbiababJ24
import Derived.Test.YtfnnbfgfmbiababJ36
import Derived.Test.YtfnnbfgfmbiababJ38
import Derived.Test.YtfnnbfgfmbiababJ19
/-
  The document's check of messages, kinds 5, 6.
-/
namespace Go.Proofs.Ytfnnbfgfmbiabab
open Go.RowKit Go.Shelf

set_option linter.unusedVariables false

theorem blankR5 (fr to tm ix lt cm hi cx : Int) (rj : Bool) (ea : Option Addr) (ec : Nat) (es : List Ent) (si st : Int) (sa : Option Addr) (sc : Nat) (sd : List UInt8) : ((((5 : Int) == 5) && (fr == fr) && (to == to) && (tm == tm)) && (decide (sd = []) && (si == 0) && (st == 0)) && decide (saysOf es = saysOf []) && (ix == 0) && (lt == 0) && (cm == cm) && (hi == 0) && (cx == cx) && (rj == false)) = blank ix lt 0 hi 0 rj es.length si st sd.length := by
  rw [Bool.eq_iff_iff]
  simp [blank, saysOf]
  try (constructor <;> rintro h <;> simp_all)

set_option maxRecDepth 100000 in
set_option maxHeartbeats 8000000 in
theorem refChkM5_any (fr to tm ix lt cm hi cx : Int) (rj : Bool) (ea : Option Addr) (ec : Nat) (es : List Ent) (si st : Int) (sa : Option Addr) (sc : Nat) (sd : List UInt8) (N : Nat) (w : World) (hE : EntsAt N w ea es) (hD : Sl N w (.slice sa sd.length sc) sd) (hN : N ≤ w.heap.size) (hz : es.length ≤ 1000000) : Calls Try.prog 19 #[.agg #[.int .i64 5, .int .i64 fr, .int .i64 to, .int .i64 tm, .int .i64 ix, .int .i64 lt, .int .i64 cm, .int .i64 hi, .int .i64 cx, .bool rj, .slice ea es.length ec, .int .i64 si, .int .i64 st, .slice sa sd.length sc]] w fun e w' => e = .returned (.int .i64 (ckM5 fr to tm ix lt cm hi cx rj es.length si st sd.length : Int)) ∧ Below w.heap.size w w' := by
  have inK : isIn 5 1 7 = true := by decide
  unfold ckM5
  by_cases hR : msgRange fr to tm ix lt cm hi cx = true
  case neg =>
    simp only [Bool.not_eq_true] at hR
    rw [if_pos hR]
    exact refRangeNo_any 5 fr to tm ix lt cm hi cx rj ea es.length ec si st sa sd.length sc w inK hR
  rw [if_neg (by simp [hR])]
  have hR' := hR
  unfold msgRange at hR'
  simp only [Bool.and_eq_true] at hR'
  obtain ⟨⟨⟨⟨⟨⟨⟨g0, g1⟩, g2⟩, g3⟩, g4⟩, g5⟩, g6⟩, g7⟩ := hR'
  obtain ⟨W0, hW0⟩ : ∃ W0, w.alloc (.cells #[.int .i64 5, .int .i64 fr, .int .i64 to, .int .i64 tm, .int .i64 ix, .int .i64 lt, .int .i64 cm, .int .i64 hi, .int .i64 cx, .bool rj, .slice ea es.length ec, .int .i64 si, .int .i64 st, .slice sa sd.length sc] 49) = W0 := ⟨_, rfl⟩
  have HW0 : Hid (w.alloc (.cells #[.int .i64 5, .int .i64 fr, .int .i64 to, .int .i64 tm, .int .i64 ix, .int .i64 lt, .int .i64 cm, .int .i64 hi, .int .i64 cx, .bool rj, .slice ea es.length ec, .int .i64 si, .int .i64 st, .slice sa sd.length sc] 49) = W0) := hW0
  have HB0 : Hid (Below w.heap.size w W0) := by show Below w.heap.size w W0; rw [← hW0]; exact (Below.refl _ w).alloc (by simp) _
  have HX : Hid (∀ w', Below W0.heap.size W0 w' → w'.heap[w.heap.size]? = some (.cells #[.int .i64 5, .int .i64 fr, .int .i64 to, .int .i64 tm, .int .i64 ix, .int .i64 lt, .int .i64 cm, .int .i64 hi, .int .i64 cx, .bool rj, .slice ea es.length ec, .int .i64 si, .int .i64 st, .slice sa sd.length sc] 49 (0, 0))) := fun w' hB => by
    refine (hB.block _ (by rw [← hW0]; simp)).trans ?_
    rw [← hW0]; exact World.alloc_heap_new w _
  have HS0 : Hid (W0.heap.size = w.heap.size + 1) := by show W0.heap.size = _; rw [← hW0]; simp
  clear hW0
  have HEE : Hid (EntsAt N W0 ea es) := hE.below (HB0.out.mono hN)
  have HSD : Hid (Sl N W0 (.slice sa sd.length sc) sd) := hD.below (HB0.out.mono hN)
  have hNW : N ≤ W0.heap.size := by have := HS0.out; omega
  clear hE hD
  obtain ⟨bl, hbl⟩ : ∃ bl, blank ix lt 0 hi 0 rj es.length si st sd.length = bl := ⟨_, rfl⟩
  rw [hbl]
  have HSM : Hid (∀ w1, Below W0.heap.size W0 w1 → Calls Try.prog 18 #[.agg #[.int .i64 5, .int .i64 fr, .int .i64 to, .int .i64 tm, .int .i64 ix, .int .i64 lt, .int .i64 cm, .int .i64 hi, .int .i64 cx, .bool rj, .slice ea es.length ec, .int .i64 si, .int .i64 st, .slice sa sd.length sc], .agg #[.int .i64 5, .int .i64 fr, .int .i64 to, .int .i64 tm, .int .i64 0, .int .i64 0, .int .i64 cm, .int .i64 0, .int .i64 cx, .bool false, .slice none 0 0, .int .i64 0, .int .i64 0, .slice none 0 0]] w1 fun e w' => e = .returned (.bool bl) ∧ Below w1.heap.size w1 w') := fun w1 hB1 => by
    have hS := sameMsg_any 5 fr to tm ix lt cm hi cx rj ea ec es si st sa sc sd 5 fr to tm 0 0 cm 0 cx false none 0 [] 0 0 none 0 [] N w1 (HEE.out.below (hB1.mono hNW)) (.inl rfl) (HSD.out.below (hB1.mono hNW)) (Sl.nil _ _) (by have := hB1.size; omega) hz
    rw [(blankR5 fr to tm ix lt cm hi cx rj ea ec es si st sa sc sd).trans hbl] at hS
    exact hS
  clear hbl
  obtain ⟨E, HE⟩ : ∃ E : Nat, Hid ((if fr = to then 4 else if bl = false then 4 else 0) = E) := ⟨_, rfl⟩
  rw [HE.out]
  go_enter Try.func19, Try.ntmps19
  go_wp2_with (first
    | (go_at_call 44; refine (refWithin_any _ _ _ _).mono ?_; rintro e w' ⟨rfl, hw⟩; subst w'; simp only [inK, g0, g1, g2])
    | (go_at_call 46; refine (number_any _ _).mono ?_; rintro e w' ⟨rfl, hw⟩; subst w'; simp only [g3, g4, g5, g6, g7]))
  rw [HW0.out]
  obtain ⟨⟨q0, q1, q2, q3, q4, q5, q6, q7, q8, q9, q10, q11, q12, q13⟩, -⟩ := cells14 (HX.out _ (Below.refl _ _))
  have hlw0 : w.heap.size < W0.heap.size := by have := HS0.out; omega
  go_region_held3 (fun w' => w'.cell? ⟨w.heap.size, 0, none⟩ = some (.int .i64 5) ∧ w'.cell? ⟨w.heap.size, 1, none⟩ = some (.int .i64 fr) ∧ w'.cell? ⟨w.heap.size, 2, none⟩ = some (.int .i64 to) ∧ w'.cell? ⟨w.heap.size, 3, none⟩ = some (.int .i64 tm) ∧ w'.cell? ⟨w.heap.size, 4, none⟩ = some (.int .i64 ix) ∧ w'.cell? ⟨w.heap.size, 5, none⟩ = some (.int .i64 lt) ∧ w'.cell? ⟨w.heap.size, 6, none⟩ = some (.int .i64 cm) ∧ w'.cell? ⟨w.heap.size, 7, none⟩ = some (.int .i64 hi) ∧ w'.cell? ⟨w.heap.size, 8, none⟩ = some (.int .i64 cx) ∧ w'.cell? ⟨w.heap.size, 9, none⟩ = some (.bool rj) ∧ w'.cell? ⟨w.heap.size, 10, none⟩ = some (.slice ea es.length ec) ∧ w'.cell? ⟨w.heap.size, 11, none⟩ = some (.int .i64 si) ∧ w'.cell? ⟨w.heap.size, 12, none⟩ = some (.int .i64 st) ∧ w'.cell? ⟨w.heap.size, 13, none⟩ = some (.slice sa sd.length sc)) (go_keep)
    (first
      | (go_at_call 47; refine (used5_any _ _ _ _ _ _ _ _ _ _ _ _ _ _ _ _ _ _).mono ?_; rintro e w1 ⟨rfl, hB1d⟩; have hB1 : Below W0.heap.size W0 w1 := ⟨hB1d.os, hB1d.tape, hB1d.output, hB1d.size, hB1d.block⟩; obtain ⟨⟨q0, q1, q2, q3, q4, q5, q6, q7, q8, q9, q10, q11, q12, q13⟩, -⟩ := cells14 (HX.out _ hB1))
      | (go_at_call 18; refine (HSM.out _ hB1).mono ?_; rintro e w2 ⟨rfl, hB2⟩; have hB2' := hB1.trans (hB2.mono hB1.size); obtain ⟨⟨q0, q1, q2, q3, q4, q5, q6, q7, q8, q9, q10, q11, q12, q13⟩, -⟩ := cells14 (HX.out _ hB2')))
  have hlw2 : w.heap.size < w2.heap.size := by have := hB2'.size; have := HS0.out; omega
  clear HSM
  by_cases hE : fr = to
  case pos =>
    obtain rfl : E = 4 := by rw [← HE.out, if_pos hE]
    clear HE
    subst hE
    go_wp2
    go_returns
    exact ⟨rfl, HB0.out.trans (hB2'.mono HB0.out.size)⟩
  have hE' : (fr == to) = false := by simpa using hE
  cases bl
  case false =>
    obtain rfl : E = 4 := by rw [← HE.out, if_neg hE, if_pos rfl]
    clear HE
    go_wp2
    go_returns
    exact ⟨rfl, HB0.out.trans (hB2'.mono HB0.out.size)⟩
  have hT : 0 = E := by have := HE.out; rw [if_neg hE, if_neg (by simp)] at this; exact this
  clear HE
  have HT : Hid (0 = E) := hT
  clear hT
  obtain rfl : E = 0 := HT.out.symm
  clear HT
  go_wp2
  go_returns
  exact ⟨rfl, HB0.out.trans (hB2'.mono HB0.out.size)⟩

theorem blankR6 (fr to tm ix lt cm hi cx : Int) (rj : Bool) (ea : Option Addr) (ec : Nat) (es : List Ent) (si st : Int) (sa : Option Addr) (sc : Nat) (sd : List UInt8) : ((((6 : Int) == 6) && (fr == fr) && (to == to) && (tm == tm)) && (decide (sd = []) && (si == 0) && (st == 0)) && decide (saysOf es = saysOf []) && (ix == 0) && (lt == 0) && (cm == 0) && (hi == 0) && (cx == cx) && (rj == false)) = blank ix lt cm hi 0 rj es.length si st sd.length := by
  rw [Bool.eq_iff_iff]
  simp [blank, saysOf]
  try (constructor <;> rintro h <;> simp_all)

set_option maxRecDepth 100000 in
set_option maxHeartbeats 8000000 in
theorem refChkM6_any (fr to tm ix lt cm hi cx : Int) (rj : Bool) (ea : Option Addr) (ec : Nat) (es : List Ent) (si st : Int) (sa : Option Addr) (sc : Nat) (sd : List UInt8) (N : Nat) (w : World) (hE : EntsAt N w ea es) (hD : Sl N w (.slice sa sd.length sc) sd) (hN : N ≤ w.heap.size) (hz : es.length ≤ 1000000) : Calls Try.prog 19 #[.agg #[.int .i64 6, .int .i64 fr, .int .i64 to, .int .i64 tm, .int .i64 ix, .int .i64 lt, .int .i64 cm, .int .i64 hi, .int .i64 cx, .bool rj, .slice ea es.length ec, .int .i64 si, .int .i64 st, .slice sa sd.length sc]] w fun e w' => e = .returned (.int .i64 (ckM6 fr to tm ix lt cm hi cx rj es.length si st sd.length : Int)) ∧ Below w.heap.size w w' := by
  have inK : isIn 6 1 7 = true := by decide
  unfold ckM6
  by_cases hR : msgRange fr to tm ix lt cm hi cx = true
  case neg =>
    simp only [Bool.not_eq_true] at hR
    rw [if_pos hR]
    exact refRangeNo_any 6 fr to tm ix lt cm hi cx rj ea es.length ec si st sa sd.length sc w inK hR
  rw [if_neg (by simp [hR])]
  have hR' := hR
  unfold msgRange at hR'
  simp only [Bool.and_eq_true] at hR'
  obtain ⟨⟨⟨⟨⟨⟨⟨g0, g1⟩, g2⟩, g3⟩, g4⟩, g5⟩, g6⟩, g7⟩ := hR'
  obtain ⟨W0, hW0⟩ : ∃ W0, w.alloc (.cells #[.int .i64 6, .int .i64 fr, .int .i64 to, .int .i64 tm, .int .i64 ix, .int .i64 lt, .int .i64 cm, .int .i64 hi, .int .i64 cx, .bool rj, .slice ea es.length ec, .int .i64 si, .int .i64 st, .slice sa sd.length sc] 49) = W0 := ⟨_, rfl⟩
  have HW0 : Hid (w.alloc (.cells #[.int .i64 6, .int .i64 fr, .int .i64 to, .int .i64 tm, .int .i64 ix, .int .i64 lt, .int .i64 cm, .int .i64 hi, .int .i64 cx, .bool rj, .slice ea es.length ec, .int .i64 si, .int .i64 st, .slice sa sd.length sc] 49) = W0) := hW0
  have HB0 : Hid (Below w.heap.size w W0) := by show Below w.heap.size w W0; rw [← hW0]; exact (Below.refl _ w).alloc (by simp) _
  have HX : Hid (∀ w', Below W0.heap.size W0 w' → w'.heap[w.heap.size]? = some (.cells #[.int .i64 6, .int .i64 fr, .int .i64 to, .int .i64 tm, .int .i64 ix, .int .i64 lt, .int .i64 cm, .int .i64 hi, .int .i64 cx, .bool rj, .slice ea es.length ec, .int .i64 si, .int .i64 st, .slice sa sd.length sc] 49 (0, 0))) := fun w' hB => by
    refine (hB.block _ (by rw [← hW0]; simp)).trans ?_
    rw [← hW0]; exact World.alloc_heap_new w _
  have HS0 : Hid (W0.heap.size = w.heap.size + 1) := by show W0.heap.size = _; rw [← hW0]; simp
  clear hW0
  have HEE : Hid (EntsAt N W0 ea es) := hE.below (HB0.out.mono hN)
  have HSD : Hid (Sl N W0 (.slice sa sd.length sc) sd) := hD.below (HB0.out.mono hN)
  have hNW : N ≤ W0.heap.size := by have := HS0.out; omega
  clear hE hD
  obtain ⟨bl, hbl⟩ : ∃ bl, blank ix lt cm hi 0 rj es.length si st sd.length = bl := ⟨_, rfl⟩
  rw [hbl]
  have HSM : Hid (∀ w1, Below W0.heap.size W0 w1 → Calls Try.prog 18 #[.agg #[.int .i64 6, .int .i64 fr, .int .i64 to, .int .i64 tm, .int .i64 ix, .int .i64 lt, .int .i64 cm, .int .i64 hi, .int .i64 cx, .bool rj, .slice ea es.length ec, .int .i64 si, .int .i64 st, .slice sa sd.length sc], .agg #[.int .i64 6, .int .i64 fr, .int .i64 to, .int .i64 tm, .int .i64 0, .int .i64 0, .int .i64 0, .int .i64 0, .int .i64 cx, .bool false, .slice none 0 0, .int .i64 0, .int .i64 0, .slice none 0 0]] w1 fun e w' => e = .returned (.bool bl) ∧ Below w1.heap.size w1 w') := fun w1 hB1 => by
    have hS := sameMsg_any 6 fr to tm ix lt cm hi cx rj ea ec es si st sa sc sd 6 fr to tm 0 0 0 0 cx false none 0 [] 0 0 none 0 [] N w1 (HEE.out.below (hB1.mono hNW)) (.inl rfl) (HSD.out.below (hB1.mono hNW)) (Sl.nil _ _) (by have := hB1.size; omega) hz
    rw [(blankR6 fr to tm ix lt cm hi cx rj ea ec es si st sa sc sd).trans hbl] at hS
    exact hS
  clear hbl
  obtain ⟨E, HE⟩ : ∃ E : Nat, Hid ((if fr = to then 4 else if bl = false then 4 else 0) = E) := ⟨_, rfl⟩
  rw [HE.out]
  go_enter Try.func19, Try.ntmps19
  go_wp2_with (first
    | (go_at_call 44; refine (refWithin_any _ _ _ _).mono ?_; rintro e w' ⟨rfl, hw⟩; subst w'; simp only [inK, g0, g1, g2])
    | (go_at_call 46; refine (number_any _ _).mono ?_; rintro e w' ⟨rfl, hw⟩; subst w'; simp only [g3, g4, g5, g6, g7]))
  rw [HW0.out]
  obtain ⟨⟨q0, q1, q2, q3, q4, q5, q6, q7, q8, q9, q10, q11, q12, q13⟩, -⟩ := cells14 (HX.out _ (Below.refl _ _))
  have hlw0 : w.heap.size < W0.heap.size := by have := HS0.out; omega
  go_region_held3 (fun w' => w'.cell? ⟨w.heap.size, 0, none⟩ = some (.int .i64 6) ∧ w'.cell? ⟨w.heap.size, 1, none⟩ = some (.int .i64 fr) ∧ w'.cell? ⟨w.heap.size, 2, none⟩ = some (.int .i64 to) ∧ w'.cell? ⟨w.heap.size, 3, none⟩ = some (.int .i64 tm) ∧ w'.cell? ⟨w.heap.size, 4, none⟩ = some (.int .i64 ix) ∧ w'.cell? ⟨w.heap.size, 5, none⟩ = some (.int .i64 lt) ∧ w'.cell? ⟨w.heap.size, 6, none⟩ = some (.int .i64 cm) ∧ w'.cell? ⟨w.heap.size, 7, none⟩ = some (.int .i64 hi) ∧ w'.cell? ⟨w.heap.size, 8, none⟩ = some (.int .i64 cx) ∧ w'.cell? ⟨w.heap.size, 9, none⟩ = some (.bool rj) ∧ w'.cell? ⟨w.heap.size, 10, none⟩ = some (.slice ea es.length ec) ∧ w'.cell? ⟨w.heap.size, 11, none⟩ = some (.int .i64 si) ∧ w'.cell? ⟨w.heap.size, 12, none⟩ = some (.int .i64 st) ∧ w'.cell? ⟨w.heap.size, 13, none⟩ = some (.slice sa sd.length sc)) (go_keep)
    (first
      | (go_at_call 47; refine (used6_any _ _ _ _ _ _ _ _ _ _ _ _ _ _ _ _ _ _).mono ?_; rintro e w1 ⟨rfl, hB1d⟩; have hB1 : Below W0.heap.size W0 w1 := ⟨hB1d.os, hB1d.tape, hB1d.output, hB1d.size, hB1d.block⟩; obtain ⟨⟨q0, q1, q2, q3, q4, q5, q6, q7, q8, q9, q10, q11, q12, q13⟩, -⟩ := cells14 (HX.out _ hB1))
      | (go_at_call 18; refine (HSM.out _ hB1).mono ?_; rintro e w2 ⟨rfl, hB2⟩; have hB2' := hB1.trans (hB2.mono hB1.size); obtain ⟨⟨q0, q1, q2, q3, q4, q5, q6, q7, q8, q9, q10, q11, q12, q13⟩, -⟩ := cells14 (HX.out _ hB2')))
  have hlw2 : w.heap.size < w2.heap.size := by have := hB2'.size; have := HS0.out; omega
  clear HSM
  by_cases hE : fr = to
  case pos =>
    obtain rfl : E = 4 := by rw [← HE.out, if_pos hE]
    clear HE
    subst hE
    go_wp2
    go_returns
    exact ⟨rfl, HB0.out.trans (hB2'.mono HB0.out.size)⟩
  have hE' : (fr == to) = false := by simpa using hE
  cases bl
  case false =>
    obtain rfl : E = 4 := by rw [← HE.out, if_neg hE, if_pos rfl]
    clear HE
    go_wp2
    go_returns
    exact ⟨rfl, HB0.out.trans (hB2'.mono HB0.out.size)⟩
  have hT : 0 = E := by have := HE.out; rw [if_neg hE, if_neg (by simp)] at this; exact this
  clear HE
  have HT : Hid (0 = E) := hT
  clear hT
  obtain rfl : E = 0 := HT.out.symm
  clear HT
  go_wp2
  go_returns
  exact ⟨rfl, HB0.out.trans (hB2'.mono HB0.out.size)⟩

end Go.Proofs.Ytfnnbfgfmbiabab

/-
  What messages of kinds 3 and 7 use, read: the code's.
-/
namespace Go.Proofs.Ytfnnbfgfmbiabab
open Go.RowKit Go.Shelf

set_option maxRecDepth 100000 in
set_option maxHeartbeats 8000000 in
theorem getU3_any (fr to tm : Int) {w0 w : World} {R X : Nat} {l : List UInt8} {p e p1 e1 p2 e2 p3 e3 p4 e4 n1 n2 n3 n4 : Nat} (h : Rr w0 w R l p e) (hX : w.heap[X]? = some (.cells #[.int .i64 3, .int .i64 fr, .int .i64 to, .int .i64 tm, .int .i64 0, .int .i64 0, .int .i64 0, .int .i64 0, .int .i64 0, .bool false, .slice none 0 0, .int .i64 0, .int .i64 0, .slice none 0 0] 49 (0, 0))) (hRX : R < X) (hl : l.length ≤ 1000000000)
    (H1 : Hid (rdN l (p, e) = (n1, (p1, e1)))) (H2 : Hid (rdN l (p1, e1) = (n2, (p2, e2)))) (H3 : Hid (rdN l (p2, e2) = (n3, (p3, e3)))) (H4 : Hid (rdN l (p3, e3) = (n4, (p4, e4)))) (E : Nat) (hE : E = (if e4 ≠ 0 then e4 else if (64 : Int) < (n4 : Int) then 3 else (rdEs l 8192 n4 (p4, e4)).1 : Nat)) :
    Calls Try.prog 68 #[.pointer (some ⟨R, 0, none⟩), .pointer (some ⟨X, 0, none⟩)] w fun r w' => ∃ va vc es, r = .returned (.int .i64 (E : Int)) ∧ EntsOw w.heap.size w' (.slice va es.length vc) es ∧
      (E = 0 → es.map Ent.says = saysN (rdEs l 8192 n4 (p4, e4)).2.1 ∧ Rr w0 w' R l (rdEs l 8192 n4 (p4, e4)).2.2.1 (rdEs l 8192 n4 (p4, e4)).2.2.2) ∧ w'.heap[X]? = some (.cells #[.int .i64 3, .int .i64 fr, .int .i64 to, .int .i64 tm, .int .i64 (n1 : Int), .int .i64 (n2 : Int), .int .i64 (n3 : Int), .int .i64 0, .int .i64 0, .bool false, .slice va es.length vc, .int .i64 0, .int .i64 0, .slice none 0 0] 49 (0, 0)) ∧ Tn w w' R (.slice (some ⟨X, 0, none⟩) 0 0) := by
  have hXl := (Array.getElem?_eq_some_iff.1 hX).1
  obtain ⟨⟨q0, q1, q2, q3, q4, q5, q6, q7, q8, q9, q10, q11, q12, q13⟩, f0, f1, f2, f3, f4, f5, f6, f7, f8, f9, f10, f11, f12, f13⟩ := cells14 hX
  have HX0 : Hid (w.heap[X]? = some (.cells #[.int .i64 3, .int .i64 fr, .int .i64 to, .int .i64 tm, .int .i64 0, .int .i64 0, .int .i64 0, .int .i64 0, .int .i64 0, .bool false, .slice none 0 0, .int .i64 0, .int .i64 0, .slice none 0 0] 49 (0, 0))) := hX
  have hT0 : w.grownBy w (some R) := grown_refl w _
  have HE : Hid ((if e4 ≠ 0 then e4 else if (64 : Int) < (n4 : Int) then 3 else (rdEs l 8192 n4 (p4, e4)).1 : Nat) = E) := hE.symm
  have HE0 : Hid (E = 0 → e4 = 0 ∧ (n4 : Int) ≤ 64 ∧ (rdEs l 8192 n4 (p4, e4)).1 = 0) := fun h0 => by
    rw [hE] at h0
    by_cases h1 : e4 = 0
    · rw [if_neg (by simpa using h1)] at h0
      by_cases h2 : (64 : Int) < (n4 : Int)
      · rw [if_pos h2] at h0; simp at h0
      · rw [if_neg h2] at h0; exact ⟨h1, by omega, h0⟩
    · rw [if_pos h1] at h0; exact absurd h0 h1
  clear hX hE
  go_enter Try.func68, Try.ntmps68
  go_wp2_with fail
  refine (rrIg h H1).mono ?_
  rintro r w1 ⟨rfl, h1, hg1⟩
  have HX1 : Hid (w1.heap[X]? = some (.cells #[.int .i64 3, .int .i64 fr, .int .i64 to, .int .i64 tm, .int .i64 0, .int .i64 0, .int .i64 0, .int .i64 0, .int .i64 0, .bool false, .slice none 0 0, .int .i64 0, .int .i64 0, .slice none 0 0] 49 (0, 0))) := (hg1.block X (by have := hT0.size; omega) (by simp; omega)).trans HX0.out
  have hT1 : w.grownBy w1 (some R) := grown_trans hT0 hg1 (fun k e => .inl e)
  clear hg1
  obtain ⟨⟨q0, q1, q2, q3, q4, q5, q6, q7, q8, q9, q10, q11, q12, q13⟩, f0, f1, f2, f3, f4, f5, f6, f7, f8, f9, f10, f11, f12, f13⟩ := cells14 HX1.out
  go_wp2_with fail
  refine (rrIg h1 H2).mono ?_
  rintro r w2 ⟨rfl, h2, hg2⟩
  have HX2 : Hid (w2.heap[X]? = some (.cells #[.int .i64 3, .int .i64 fr, .int .i64 to, .int .i64 tm, .int .i64 0, .int .i64 0, .int .i64 0, .int .i64 0, .int .i64 0, .bool false, .slice none 0 0, .int .i64 0, .int .i64 0, .slice none 0 0] 49 (0, 0))) := (hg2.block X (by have := hT1.size; omega) (by simp; omega)).trans HX1.out
  have hT2 : w.grownBy w2 (some R) := grown_trans hT1 hg2 (fun k e => .inl e)
  clear hg2
  obtain ⟨⟨q0, q1, q2, q3, q4, q5, q6, q7, q8, q9, q10, q11, q12, q13⟩, f0, f1, f2, f3, f4, f5, f6, f7, f8, f9, f10, f11, f12, f13⟩ := cells14 HX2.out
  go_wp2_with fail
  refine (rrIg h2 H3).mono ?_
  rintro r w3 ⟨rfl, h3, hg3⟩
  have HX3 : Hid (w3.heap[X]? = some (.cells #[.int .i64 3, .int .i64 fr, .int .i64 to, .int .i64 tm, .int .i64 0, .int .i64 0, .int .i64 0, .int .i64 0, .int .i64 0, .bool false, .slice none 0 0, .int .i64 0, .int .i64 0, .slice none 0 0] 49 (0, 0))) := (hg3.block X (by have := hT2.size; omega) (by simp; omega)).trans HX2.out
  have hT3 : w.grownBy w3 (some R) := grown_trans hT2 hg3 (fun k e => .inl e)
  clear hg3
  obtain ⟨⟨q0, q1, q2, q3, q4, q5, q6, q7, q8, q9, q10, q11, q12, q13⟩, f0, f1, f2, f3, f4, f5, f6, f7, f8, f9, f10, f11, f12, f13⟩ := cells14 HX3.out
  obtain ⟨W3, hW3⟩ : ∃ W3, ((w3.setCell ⟨X, 4, none⟩ (.int .i64 (n1 : Int))).setCell ⟨X, 5, none⟩ (.int .i64 (n2 : Int))).setCell ⟨X, 6, none⟩ (.int .i64 (n3 : Int)) = W3 := ⟨_, rfl⟩
  have hr3 : Rr w0 W3 R l p3 e3 := by rw [← hW3]; exact Rr.set (Rr.set (Rr.set h3 hRX) hRX) hRX
  have HX4 : Hid (W3.heap[X]? = some (.cells #[.int .i64 3, .int .i64 fr, .int .i64 to, .int .i64 tm, .int .i64 (n1 : Int), .int .i64 (n2 : Int), .int .i64 (n3 : Int), .int .i64 0, .int .i64 0, .bool false, .slice none 0 0, .int .i64 0, .int .i64 0, .slice none 0 0] 49 (0, 0))) := by show W3.heap[X]? = _; rw [← hW3]; exact heap_set (heap_set (heap_set HX3.out 4 _) 5 _) 6 _
  have hT4 : Tn w W3 R (.slice (some ⟨X, 0, none⟩) 0 0) := by rw [← hW3]; exact Tn.setX (Tn.setX (Tn.setX (Tn.of_grown hT3 (fun k e => .inl (by cases e; rfl))) 4 _) 5 _) 6 _
  have HW3 : Hid (((w3.setCell ⟨X, 4, none⟩ (.int .i64 (n1 : Int))).setCell ⟨X, 5, none⟩ (.int .i64 (n2 : Int))).setCell ⟨X, 6, none⟩ (.int .i64 (n3 : Int)) = W3) := hW3
  have hz4 := hT4.size
  clear hW3 h3 hT3
  go_wp2_with fail
  rw [HW3.out]
  refine (getAll_any 64 8192 hr3 H4 hl).mono ?_
  rintro r w5 ⟨v, es, rfl, hEo, hcont, hg5⟩
  rw [HE.out]
  have HX5 : Hid (w5.heap[X]? = some (.cells #[.int .i64 3, .int .i64 fr, .int .i64 to, .int .i64 tm, .int .i64 (n1 : Int), .int .i64 (n2 : Int), .int .i64 (n3 : Int), .int .i64 0, .int .i64 0, .bool false, .slice none 0 0, .int .i64 0, .int .i64 0, .slice none 0 0] 49 (0, 0))) := (hg5.block X (by omega) (by simp; omega)).trans HX4.out
  have hT5 : Tn w w5 R (.slice (some ⟨X, 0, none⟩) 0 0) := ⟨hg5.os.trans hT4.os, hg5.tape.trans hT4.tape, hg5.output.trans hT4.output, Nat.le_trans hT4.size hg5.size, fun k hk hR hv => (hg5.block k (by omega) (by simp; exact hR)).trans (hT4.block k hk hR hv)⟩
  obtain ⟨va, vc, rfl⟩ : ∃ va vc, v = .slice va es.length vc := by
    rcases hEo.row.2 with ⟨hv, h0⟩ | ⟨g, cap, cur, hv, r⟩
    · rw [h0]; exact ⟨_, _, hv⟩
    · exact ⟨_, _, hv⟩
  obtain ⟨⟨q0, q1, q2, q3, q4, q5, q6, q7, q8, q9, q10, q11, q12, q13⟩, f0, f1, f2, f3, f4, f5, f6, f7, f8, f9, f10, f11, f12, f13⟩ := cells14 HX5.out
  have HF : Hid (EntsOw w.heap.size (w5.setCell ⟨X, 10, none⟩ (.slice va es.length vc)) (.slice va es.length vc) es ∧ (E = 0 → es.map Ent.says = saysN (rdEs l 8192 n4 (p4, e4)).2.1 ∧ Rr w0 (w5.setCell ⟨X, 10, none⟩ (.slice va es.length vc)) R l (rdEs l 8192 n4 (p4, e4)).2.2.1 (rdEs l 8192 n4 (p4, e4)).2.2.2) ∧ (w5.setCell ⟨X, 10, none⟩ (.slice va es.length vc)).heap[X]? = some (.cells #[.int .i64 3, .int .i64 fr, .int .i64 to, .int .i64 tm, .int .i64 (n1 : Int), .int .i64 (n2 : Int), .int .i64 (n3 : Int), .int .i64 0, .int .i64 0, .bool false, .slice va es.length vc, .int .i64 0, .int .i64 0, .slice none 0 0] 49 (0, 0)) ∧ Tn w (w5.setCell ⟨X, 10, none⟩ (.slice va es.length vc)) R (.slice (some ⟨X, 0, none⟩) 0 0)) := by
    refine ⟨((hEo.base hz4).kept (grown_set w5 X 10 _) hXl), fun h0 => ?_, heap_set HX5.out 10 _, Tn.setX hT5 10 _⟩
    obtain ⟨z1, z2, z3⟩ := HE0.out h0
    obtain ⟨c1, c2⟩ := hcont z1 z2 z3
    exact ⟨c1, Rr.set c2 hRX⟩
  clear hEo hcont hg5 hT5 hT4 hr3 HE HE0
  go_wp2
  go_returns
  exact ⟨va, vc, es, rfl, HF.out⟩

set_option maxRecDepth 100000 in
set_option maxHeartbeats 8000000 in
theorem getU7_any (fr to tm : Int) {w0 w : World} {R X : Nat} {l t : List UInt8} {p e p1 e1 : Nat} (h : Rr w0 w R l p e) (hX : w.heap[X]? = some (.cells #[.int .i64 7, .int .i64 fr, .int .i64 to, .int .i64 tm, .int .i64 0, .int .i64 0, .int .i64 0, .int .i64 0, .int .i64 0, .bool false, .slice none 0 0, .int .i64 0, .int .i64 0, .slice none 0 0] 49 (0, 0))) (hRX : R < X)
    (H1 : Hid (rdB l 1048576 (p, e) = (t, (p1, e1)))) (G : Nat × Nat × List UInt8) (E : Nat) (hG : G = if e1 ≠ 0 then (0, 0, []) else goSnap t) (hE : E = if e1 ≠ 0 then e1 else geSnap t) :
    Calls Try.prog 68 #[.pointer (some ⟨R, 0, none⟩), .pointer (some ⟨X, 0, none⟩)] w fun r w' => ∃ u, r = .returned (.int .i64 (E : Int)) ∧ Ow w.heap.size w' u G.2.2 ∧ Rr w0 w' R l p1 e1 ∧ w'.heap[X]? = some (.cells #[.int .i64 7, .int .i64 fr, .int .i64 to, .int .i64 tm, .int .i64 0, .int .i64 0, .int .i64 0, .int .i64 0, .int .i64 0, .bool false, .slice none 0 0, .int .i64 (G.1 : Int), .int .i64 (G.2.1 : Int), u] 49 (0, 0)) ∧ Tn w w' R (.slice (some ⟨X, 0, none⟩) 0 0) := by
  have hXl := (Array.getElem?_eq_some_iff.1 hX).1
  obtain ⟨⟨q0, q1, q2, q3, q4, q5, q6, q7, q8, q9, q10, q11, q12, q13⟩, f0, f1, f2, f3, f4, f5, f6, f7, f8, f9, f10, f11, f12, f13⟩ := cells14 hX
  have HX0 : Hid (w.heap[X]? = some (.cells #[.int .i64 7, .int .i64 fr, .int .i64 to, .int .i64 tm, .int .i64 0, .int .i64 0, .int .i64 0, .int .i64 0, .int .i64 0, .bool false, .slice none 0 0, .int .i64 0, .int .i64 0, .slice none 0 0] 49 (0, 0))) := hX
  have ho := getOneSnap_any 1048576 h H1 G E hG hE
  clear hX hG hE
  obtain ⟨G0, G1, G2⟩ := G
  simp only at ho ⊢
  go_enter Try.func68, Try.ntmps68
  go_wp2_with fail
  refine ho.mono ?_
  rintro r w1 ⟨u, rfl, hO1, h1, hg1⟩
  obtain ⟨ua, uc, rfl, -, -⟩ := hO1.shape
  have HX1 : Hid (w1.heap[X]? = some (.cells #[.int .i64 7, .int .i64 fr, .int .i64 to, .int .i64 tm, .int .i64 0, .int .i64 0, .int .i64 0, .int .i64 0, .int .i64 0, .bool false, .slice none 0 0, .int .i64 0, .int .i64 0, .slice none 0 0] 49 (0, 0))) := (hg1.block X hXl (by simp; omega)).trans HX0.out
  have hT1 : Tn w w1 R (.slice (some ⟨X, 0, none⟩) 0 0) := Tn.of_grown hg1 (fun k e => .inl (by cases e; rfl))
  obtain ⟨⟨q0, q1, q2, q3, q4, q5, q6, q7, q8, q9, q10, q11, q12, q13⟩, f0, f1, f2, f3, f4, f5, f6, f7, f8, f9, f10, f11, f12, f13⟩ := cells14 HX1.out
  have hO4 := ((hO1.kept (grown_set w1 X 11 (.int .i64 (G0 : Int))) (.inr (hO1.not_at HX1.out (by decide)))))
  have hX2 := heap_set HX1.out 11 (.int .i64 (G0 : Int))
  have hO5 := hO4.kept (grown_set _ X 12 (.int .i64 (G1 : Int))) (.inr (hO4.not_at hX2 (by decide)))
  have hX3 := heap_set hX2 12 (.int .i64 (G1 : Int))
  have hO6 := hO5.kept (grown_set _ X 13 (.slice ua G2.length uc)) (.inr (hO5.not_at hX3 (by decide)))
  have hX4 := heap_set hX3 13 (.slice ua G2.length uc)
  have HF : Hid (_ ∧ _ ∧ _ ∧ _) := ⟨hO6, Rr.set (o := 13) (v := .slice ua G2.length uc) (Rr.set (o := 12) (v := .int .i64 (G1 : Int)) (Rr.set (o := 11) (v := .int .i64 (G0 : Int)) h1 hRX) hRX) hRX, hX4, Tn.setX (Tn.setX (Tn.setX hT1 11 (.int .i64 (G0 : Int))) 12 (.int .i64 (G1 : Int))) 13 (.slice ua G2.length uc)⟩
  clear hO1 hO4 hO5 hO6 hX2 hX3 hX4 hT1 h1 hg1
  go_wp2
  go_returns
  exact ⟨.slice ua G2.length uc, rfl, HF.out⟩

end Go.Proofs.Ytfnnbfgfmbiabab

