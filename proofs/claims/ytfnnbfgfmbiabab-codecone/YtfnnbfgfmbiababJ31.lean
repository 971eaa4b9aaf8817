/-
  MsgC3.
-/
import Derived.Test.YtfnnbfgfmbiababJ21
import Derived.Test.YtfnnbfgfmbiababJ20
/-
  Messages of kind 3: what may be.
-/
namespace Go.Proofs.Ytfnnbfgfmbiabab
open Go.RowKit Go.Shelf

set_option linter.unusedVariables false

/-- What may be of a message of kind 3. -/
def ckM3 (fr to tm ix lt cm hi cx : Int) (rj : Bool) (es : List Ent) (si st : Int) (sn : Nat) : Nat :=
  if msgRange fr to tm ix lt cm hi cx = false then 1 else if fr = to then 4 else if blank 0 0 0 hi cx rj 0 si st sn = false then 4 else ckApp tm ix lt es

set_option maxRecDepth 100000 in
set_option maxHeartbeats 8000000 in
theorem chkM3_any (fr to tm ix lt cm hi cx : Int) (rj : Bool) (ea : Option Addr) (ec : Nat) (es : List Ent) (si st : Int) (sa : Option Addr) (sn sc : Nat) (w : World) (N : Nat) (hEs : EntsAt N w ea es) (hN : N ≤ w.heap.size) : Calls Try.prog 24 #[.agg #[], .agg #[.int .i64 3, .int .i64 fr, .int .i64 to, .int .i64 tm, .int .i64 ix, .int .i64 lt, .int .i64 cm, .int .i64 hi, .int .i64 cx, .bool rj, .slice ea es.length ec, .int .i64 si, .int .i64 st, .slice sa sn sc]] w fun e w' => e = .returned (.int .i64 (ckM3 fr to tm ix lt cm hi cx rj es si st sn : Int)) ∧ Below w.heap.size w w' := by
  obtain ⟨W0, hW0⟩ : ∃ W0, (w.alloc (.cells #[] 60)).alloc (.cells #[.int .i64 3, .int .i64 fr, .int .i64 to, .int .i64 tm, .int .i64 ix, .int .i64 lt, .int .i64 cm, .int .i64 hi, .int .i64 cx, .bool rj, .slice ea es.length ec, .int .i64 si, .int .i64 st, .slice sa sn sc] 49) = W0 := ⟨_, rfl⟩
  have HW0 : Hid ((w.alloc (.cells #[] 60)).alloc (.cells #[.int .i64 3, .int .i64 fr, .int .i64 to, .int .i64 tm, .int .i64 ix, .int .i64 lt, .int .i64 cm, .int .i64 hi, .int .i64 cx, .bool rj, .slice ea es.length ec, .int .i64 si, .int .i64 st, .slice sa sn sc] 49) = W0) := hW0
  have HB0 : Hid (Below w.heap.size w W0) := by show Below w.heap.size w W0; rw [← hW0]; exact (((Below.refl _ w).alloc (by simp) _).alloc (by simp) _)
  have HX : Hid (∀ w', Below W0.heap.size W0 w' → w'.heap[w.heap.size + 1]? = some (.cells #[.int .i64 3, .int .i64 fr, .int .i64 to, .int .i64 tm, .int .i64 ix, .int .i64 lt, .int .i64 cm, .int .i64 hi, .int .i64 cx, .bool rj, .slice ea es.length ec, .int .i64 si, .int .i64 st, .slice sa sn sc] 49 (0, 0))) := fun w' hB => by
    have hlt : w.heap.size + 1 < W0.heap.size := by rw [← hW0]; simp
    refine (hB.block _ hlt).trans ?_
    rw [← hW0]; simpa using World.alloc_heap_new (w.alloc (.cells #[] 60)) _
  clear hW0
  have inK : isIn 3 1 7 = true := by decide
  unfold ckM3
  by_cases hR : msgRange fr to tm ix lt cm hi cx = true
  case neg =>
    simp only [Bool.not_eq_true] at hR
    rw [if_pos hR]
    go_enter Try.func24, Try.ntmps24
    go_wp2_with (first
      | (go_at_call 57; refine (isKind_any _ _).mono ?_; rintro e w' ⟨rfl, hw⟩; subst w'; simp only [inK])
      | (go_at_call 58; rw [HW0.out]; refine (inRange_any _ _ _ _ _ _ _ _ _ _ _ _ _ _ _ _ _ _ _).mono ?_; rintro e w1 ⟨rfl, hB1⟩; rw [hR]; obtain ⟨⟨q0, q1, q2, q3, q4, q5, q6, q7, q8, q9, q10, q11, q12, q13⟩, -⟩ := cells14 (HX.out _ hB1))
      | (go_at_call 60; refine (unused3_any _ _ _ _ _ _ _ _ _ _ _ _ _ _ _ _ _ _).mono ?_; rintro e w2 ⟨rfl, hB2⟩; have hB2' := hB1.trans (hB2.mono hB1.size); obtain ⟨⟨q0, q1, q2, q3, q4, q5, q6, q7, q8, q9, q10, q11, q12, q13⟩, -⟩ := cells14 (HX.out _ hB2'))
      | (go_at_call 59; refine (isBlank_any _ _ _ _ _ _ _ _ _ _ _ _ _ _ _ _ _ _ _).mono ?_; rintro e w3 ⟨rfl, hB3⟩; rw [hBl]; have hB3' := hB2'.trans (hB3.mono hB2'.size); obtain ⟨⟨q0, q1, q2, q3, q4, q5, q6, q7, q8, q9, q10, q11, q12, q13⟩, -⟩ := cells14 (HX.out _ hB3')))
    go_returns
    exact ⟨rfl, HB0.out.trans (hB1.mono HB0.out.size)⟩
  rw [if_neg (by simp [hR])]
  by_cases hE : fr = to
  case pos =>
    rw [if_pos hE]
    subst hE
    go_enter Try.func24, Try.ntmps24
    go_wp2_with (first
      | (go_at_call 57; refine (isKind_any _ _).mono ?_; rintro e w' ⟨rfl, hw⟩; subst w'; simp only [inK])
      | (go_at_call 58; rw [HW0.out]; refine (inRange_any _ _ _ _ _ _ _ _ _ _ _ _ _ _ _ _ _ _ _).mono ?_; rintro e w1 ⟨rfl, hB1⟩; rw [hR]; obtain ⟨⟨q0, q1, q2, q3, q4, q5, q6, q7, q8, q9, q10, q11, q12, q13⟩, -⟩ := cells14 (HX.out _ hB1))
      | (go_at_call 60; refine (unused3_any _ _ _ _ _ _ _ _ _ _ _ _ _ _ _ _ _ _).mono ?_; rintro e w2 ⟨rfl, hB2⟩; have hB2' := hB1.trans (hB2.mono hB1.size); obtain ⟨⟨q0, q1, q2, q3, q4, q5, q6, q7, q8, q9, q10, q11, q12, q13⟩, -⟩ := cells14 (HX.out _ hB2'))
      | (go_at_call 59; refine (isBlank_any _ _ _ _ _ _ _ _ _ _ _ _ _ _ _ _ _ _ _).mono ?_; rintro e w3 ⟨rfl, hB3⟩; rw [hBl]; have hB3' := hB2'.trans (hB3.mono hB2'.size); obtain ⟨⟨q0, q1, q2, q3, q4, q5, q6, q7, q8, q9, q10, q11, q12, q13⟩, -⟩ := cells14 (HX.out _ hB3')))
    go_returns
    exact ⟨rfl, HB0.out.trans (hB1.mono HB0.out.size)⟩
  rw [if_neg hE]
  have hE' : (fr == to) = false := by simpa using hE
  by_cases hBl : blank 0 0 0 hi cx rj 0 si st sn = true
  case neg =>
    simp only [Bool.not_eq_true] at hBl
    rw [if_pos hBl]
    go_enter Try.func24, Try.ntmps24
    go_wp2_with (first
      | (go_at_call 57; refine (isKind_any _ _).mono ?_; rintro e w' ⟨rfl, hw⟩; subst w'; simp only [inK])
      | (go_at_call 58; rw [HW0.out]; refine (inRange_any _ _ _ _ _ _ _ _ _ _ _ _ _ _ _ _ _ _ _).mono ?_; rintro e w1 ⟨rfl, hB1⟩; rw [hR]; obtain ⟨⟨q0, q1, q2, q3, q4, q5, q6, q7, q8, q9, q10, q11, q12, q13⟩, -⟩ := cells14 (HX.out _ hB1))
      | (go_at_call 60; refine (unused3_any _ _ _ _ _ _ _ _ _ _ _ _ _ _ _ _ _ _).mono ?_; rintro e w2 ⟨rfl, hB2⟩; have hB2' := hB1.trans (hB2.mono hB1.size); obtain ⟨⟨q0, q1, q2, q3, q4, q5, q6, q7, q8, q9, q10, q11, q12, q13⟩, -⟩ := cells14 (HX.out _ hB2'))
      | (go_at_call 59; refine (isBlank_any _ _ _ _ _ _ _ _ _ _ _ _ _ _ _ _ _ _ _).mono ?_; rintro e w3 ⟨rfl, hB3⟩; rw [hBl]; have hB3' := hB2'.trans (hB3.mono hB2'.size); obtain ⟨⟨q0, q1, q2, q3, q4, q5, q6, q7, q8, q9, q10, q11, q12, q13⟩, -⟩ := cells14 (HX.out _ hB3')))
    go_returns
    exact ⟨rfl, HB0.out.trans (hB3'.mono HB0.out.size)⟩
  rw [if_neg (by simp [hBl])]
  have HEE : Hid (EntsAt N W0 ea es) := hEs.below (HB0.out.mono hN)
  have hix : 0 ≤ ix ∧ ix ≤ 4611686018427387904 := by
    have := (msgRange_ok hR).2.2.2.1
    simpa [isNumB] using this
  have HSZ : Hid (w.heap.size ≤ W0.heap.size) := HB0.out.size
  clear hEs
  go_enter Try.func24, Try.ntmps24
  go_wp2_with (first
      | (go_at_call 57; refine (isKind_any _ _).mono ?_; rintro e w' ⟨rfl, hw⟩; subst w'; simp only [inK])
      | (go_at_call 58; rw [HW0.out]; refine (inRange_any _ _ _ _ _ _ _ _ _ _ _ _ _ _ _ _ _ _ _).mono ?_; rintro e w1 ⟨rfl, hB1⟩; rw [hR]; obtain ⟨⟨q0, q1, q2, q3, q4, q5, q6, q7, q8, q9, q10, q11, q12, q13⟩, -⟩ := cells14 (HX.out _ hB1))
      | (go_at_call 60; refine (unused3_any _ _ _ _ _ _ _ _ _ _ _ _ _ _ _ _ _ _).mono ?_; rintro e w2 ⟨rfl, hB2⟩; have hB2' := hB1.trans (hB2.mono hB1.size); obtain ⟨⟨q0, q1, q2, q3, q4, q5, q6, q7, q8, q9, q10, q11, q12, q13⟩, -⟩ := cells14 (HX.out _ hB2'))
      | (go_at_call 59; refine (isBlank_any _ _ _ _ _ _ _ _ _ _ _ _ _ _ _ _ _ _ _).mono ?_; rintro e w3 ⟨rfl, hB3⟩; rw [hBl]; have hB3' := hB2'.trans (hB3.mono hB2'.size); obtain ⟨⟨q0, q1, q2, q3, q4, q5, q6, q7, q8, q9, q10, q11, q12, q13⟩, -⟩ := cells14 (HX.out _ hB3'))
      | (go_at_call 61; refine (checkApp_any fr to tm ix lt cm hi cx rj ea ec es si st sa sn sc w3 N (HEE.out.below (hB3'.mono (by have := HSZ.out; omega))) (by have := hB3'.size; have := HSZ.out; omega) hix).mono ?_; rintro e w4 ⟨rfl, hB4⟩; have hB4' := hB3'.trans (hB4.mono hB3'.size)))
  go_returns
  exact ⟨rfl, HB0.out.trans (hB4'.mono HB0.out.size)⟩

end Go.Proofs.Ytfnnbfgfmbiabab

