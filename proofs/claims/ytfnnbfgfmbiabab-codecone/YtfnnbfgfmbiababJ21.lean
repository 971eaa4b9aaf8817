/-
  EntC.
-/
import Derived.Test.YtfnnbfgfmbiababJ18
/-
  Entries of a message: the code's looks at them.
-/
namespace Go.Proofs.Ytfnnbfgfmbiabab
open Go.RowKit Go.Shelf

theorem firstErr_ok {e : Ent} {r : List Ent} (h : e.ck = 0) : firstErr (e :: r) = firstErr r := by simp [firstErr, h]
theorem firstErr_no {e : Ent} {r : List Ent} (h : e.ck ≠ 0) : firstErr (e :: r) = e.ck := by simp [firstErr, h]

/-- What may be of an append. -/
def ckApp (tm ix lt : Int) (es : List Ent) : Nat :=
  if 64 < es.length then 3 else if firstErr es ≠ 0 then firstErr es else fI (decide (tm < lt) || !((ix == 0) == (lt == 0)) || !goes tm ix lt es)

set_option maxRecDepth 100000 in
set_option maxHeartbeats 8000000 in
theorem goOn_any (fr to tm ix lt cm hi cx : Int) (rj : Bool) (ea : Option Addr) (ec : Nat) (es : List Ent) (si st : Int) (sa : Option Addr) (sn sc : Nat) (w : World) (N : Nat) (hE : EntsAt N w ea es) (hN : N ≤ w.heap.size) (hn : es.length ≤ 64) (hix : 0 ≤ ix ∧ ix ≤ 4611686018427387904) : Calls Try.prog 92 #[.agg #[.int .i64 3, .int .i64 fr, .int .i64 to, .int .i64 tm, .int .i64 ix, .int .i64 lt, .int .i64 cm, .int .i64 hi, .int .i64 cx, .bool rj, .slice ea es.length ec, .int .i64 si, .int .i64 st, .slice sa sn sc]] w fun e w' => e = .returned (.bool (goes tm ix lt es)) ∧ Below w.heap.size w w' := by
  obtain ⟨W0, hW0⟩ : ∃ W0, w.alloc (.cells #[.int .i64 3, .int .i64 fr, .int .i64 to, .int .i64 tm, .int .i64 ix, .int .i64 lt, .int .i64 cm, .int .i64 hi, .int .i64 cx, .bool rj, .slice ea es.length ec, .int .i64 si, .int .i64 st, .slice sa sn sc] 49) = W0 := ⟨_, rfl⟩
  have HW0 : Hid (w.alloc (.cells #[.int .i64 3, .int .i64 fr, .int .i64 to, .int .i64 tm, .int .i64 ix, .int .i64 lt, .int .i64 cm, .int .i64 hi, .int .i64 cx, .bool rj, .slice ea es.length ec, .int .i64 si, .int .i64 st, .slice sa sn sc] 49) = W0) := hW0
  have HB0 : Hid (Below w.heap.size w W0) := by show Below w.heap.size w W0; rw [← hW0]; exact (Below.refl _ w).alloc (by simp) _
  have HX : Hid (∀ w', Below W0.heap.size W0 w' → w'.heap[w.heap.size]? = some (.cells #[.int .i64 3, .int .i64 fr, .int .i64 to, .int .i64 tm, .int .i64 ix, .int .i64 lt, .int .i64 cm, .int .i64 hi, .int .i64 cx, .bool rj, .slice ea es.length ec, .int .i64 si, .int .i64 st, .slice sa sn sc] 49 (0, 0))) := fun w' hB => by
    refine (hB.block _ (by rw [← hW0]; simp)).trans ?_
    rw [← hW0]; exact World.alloc_heap_new w _
  have hE0 := hE.below (HB0.out.mono hN)
  obtain ⟨⟨q0, q1, q2, q3, q4, q5, q6, q7, q8, q9, q10, q11, q12, q13⟩, -⟩ := cells14 (HX.out W0 (Below.refl _ _))
  have HEE : Hid (EntsAt N W0 ea es) := hE0
  clear hE hE0 hW0
  go_enter Try.func92, Try.ntmps92
  go_wp2_with fail
  rw [HW0.out]
  clear q0 q1 q2 q3 q4 q5 q6 q7 q8 q9 q10 q11 q12 q13
  go_loopw [3, 11] (fun tv iv wr => ∃ (k : Nat) (T : Int), iv = .int .i64 (k : Int) ∧ tv = .int .i64 T ∧ k ≤ es.length ∧ goes tm (ix + k) T (es.drop k) = goes tm ix lt es ∧ Below W0.heap.size W0 wr) (fun _ iv _ => es.length - (intOf iv).toNat)
  case atStart => exact ⟨0, lt, rfl, rfl, Nat.zero_le _, by simp, Below.refl _ _⟩
  case round =>
    obtain ⟨k, T, rfl, rfl, hk, hg, hB⟩ := hrel
    have HG : Hid (goes tm (ix + k) T (es.drop k) = goes tm ix lt es) := hg
    have HB : Hid (Below W0.heap.size W0 wr) := hB
    have hlw : w.heap.size < wr.heap.size := by have := hB.size; have := HB0.out.size; have : W0.heap.size = w.heap.size + 1 := by rw [← HW0.out]; simp
                                                omega
    obtain ⟨⟨q0, q1, q2, q3, q4, q5, q6, q7, q8, q9, q10, q11, q12, q13⟩, -⟩ := cells14 (HX.out wr hB)
    clear hg
    by_cases hlt : k < es.length
    · obtain ⟨b, off, hea, hb, he⟩ := HEE.out.at hlt
      subst hea
      have he' := he.below hb (hB.mono (by have := HB0.out.size; omega))
      have HD : Hid (es.drop k = es.getD k nilEnt :: es.drop (k + 1)) := drop_at hlt
      generalize es.getD k nilEnt = e at *
      obtain ⟨et, ei, ek, eaa, ecc, ed⟩ := e
      obtain ⟨c0, c1, c2, c3, -⟩ := he'
      unfold Ent.x at c3
      simp only at c0 c1 c2 c3
      have hbw : b < wr.heap.size := by have := HB0.out.size; have := hB.size; omega
      clear he hB
      by_cases h1 : ei = ix + 1 + k
      · by_cases h2 : isIn et T tm = true
        · go_wp2_with (go_at_call 75; refine (within_any _ _ _ _).mono ?_; rintro e w' ⟨rfl, hw⟩; subst w'; simp only [h2])
          refine ⟨⟨k + 1, et, by go_num, rfl, by omega, ?_, HB.out.alloc HB.out.size _⟩, by simp [intOf]; omega⟩
          have hg := HG.out
          rw [HD.out] at hg
          simp only [goes, h2] at hg
          rw [show (ei == ix + (k : Int) + 1) = true by simp; omega] at hg
          rw [show ix + ((k + 1 : Nat) : Int) = ix + (k : Int) + 1 by omega]
          simpa using hg
        · have h2' : isIn et T tm = false := by simpa using h2
          go_wp2_with (go_at_call 75; refine (within_any _ _ _ _).mono ?_; rintro e w' ⟨rfl, hw⟩; subst w'; simp only [h2'])
          go_returns
          have hg := HG.out
          rw [HD.out] at hg
          simp only [goes, h2'] at hg
          exact ⟨by rw [← hg]; simp, HB0.out.trans ((HB.out.alloc HB.out.size _).mono HB0.out.size)⟩
      · have h1' : (ei == ix + 1 + (k : Int)) = false := by simpa using h1
        have h1n : (ei != ix + 1 + (k : Int)) = true := by simpa using h1
        go_wp2
        go_returns
        have hg := HG.out
        rw [HD.out] at hg
        simp only [goes] at hg
        rw [show (ei == ix + (k : Int) + 1) = false by simp; omega] at hg
        exact ⟨by rw [← hg]; simp, HB0.out.trans ((HB.out.alloc HB.out.size _).mono HB0.out.size)⟩
    · go_wp2
      go_returns
      have := HG.out
      rw [List.drop_of_length_le (by omega)] at this
      exact ⟨by rw [← this]; rfl, HB0.out.trans (HB.out.mono HB0.out.size)⟩

set_option maxRecDepth 100000 in
set_option maxHeartbeats 8000000 in
theorem checkApp_any (fr to tm ix lt cm hi cx : Int) (rj : Bool) (ea : Option Addr) (ec : Nat) (es : List Ent) (si st : Int) (sa : Option Addr) (sn sc : Nat) (w : World) (N : Nat) (hE : EntsAt N w ea es) (hN : N ≤ w.heap.size) (hix : 0 ≤ ix ∧ ix ≤ 4611686018427387904) : Calls Try.prog 61 #[.agg #[.int .i64 3, .int .i64 fr, .int .i64 to, .int .i64 tm, .int .i64 ix, .int .i64 lt, .int .i64 cm, .int .i64 hi, .int .i64 cx, .bool rj, .slice ea es.length ec, .int .i64 si, .int .i64 st, .slice sa sn sc]] w fun e w' => e = .returned (.int .i64 (ckApp tm ix lt es : Int)) ∧ Below w.heap.size w w' := by
  obtain ⟨W0, hW0⟩ : ∃ W0, w.alloc (.cells #[.int .i64 3, .int .i64 fr, .int .i64 to, .int .i64 tm, .int .i64 ix, .int .i64 lt, .int .i64 cm, .int .i64 hi, .int .i64 cx, .bool rj, .slice ea es.length ec, .int .i64 si, .int .i64 st, .slice sa sn sc] 49) = W0 := ⟨_, rfl⟩
  have HW0 : Hid (w.alloc (.cells #[.int .i64 3, .int .i64 fr, .int .i64 to, .int .i64 tm, .int .i64 ix, .int .i64 lt, .int .i64 cm, .int .i64 hi, .int .i64 cx, .bool rj, .slice ea es.length ec, .int .i64 si, .int .i64 st, .slice sa sn sc] 49) = W0) := hW0
  have HB0 : Hid (Below w.heap.size w W0) := by show Below w.heap.size w W0; rw [← hW0]; exact (Below.refl _ w).alloc (by simp) _
  have HX : Hid (∀ w', Below W0.heap.size W0 w' → w'.heap[w.heap.size]? = some (.cells #[.int .i64 3, .int .i64 fr, .int .i64 to, .int .i64 tm, .int .i64 ix, .int .i64 lt, .int .i64 cm, .int .i64 hi, .int .i64 cx, .bool rj, .slice ea es.length ec, .int .i64 si, .int .i64 st, .slice sa sn sc] 49 (0, 0))) := fun w' hB => by
    refine (hB.block _ (by rw [← hW0]; simp)).trans ?_
    rw [← hW0]; exact World.alloc_heap_new w _
  have HS0 : Hid (W0.heap.size = w.heap.size + 1) := by show W0.heap.size = _; rw [← hW0]; simp
  have hE0 := hE.below (HB0.out.mono hN)
  obtain ⟨⟨q0, q1, q2, q3, q4, q5, q6, q7, q8, q9, q10, q11, q12, q13⟩, -⟩ := cells14 (HX.out W0 (Below.refl _ _))
  have HEE : Hid (EntsAt N W0 ea es) := hE0
  clear hE hE0 hW0
  by_cases hn : 64 < es.length
  case pos =>
    have hn' : (64 : Int) < (es.length : Int) := by omega
    have e0 : ckApp tm ix lt es = 3 := by simp [ckApp, hn]
    rw [e0]; clear e0
    go_enter Try.func61, Try.ntmps61
    go_wp2
    go_returns
    exact ⟨rfl, by have := HB0.out; rw [← HW0.out] at this; exact this⟩
  have hn' : (es.length : Int) ≤ 64 := by omega
  go_enter Try.func61, Try.ntmps61
  go_wp2_with fail
  rw [HW0.out]
  clear q0 q1 q2 q3 q4 q5 q6 q7 q8 q9 q10 q11 q12 q13
  go_loopw [13] (fun iv wr => ∃ (k : Nat), iv = .int .i64 (k : Int) ∧ k ≤ es.length ∧ firstErr (es.drop k) = firstErr es ∧ Below W0.heap.size W0 wr) (fun iv _ => es.length - (intOf iv).toNat)
  case atStart => exact ⟨0, rfl, Nat.zero_le _, by simp, Below.refl _ _⟩
  case round =>
    obtain ⟨k, rfl, hk, hg, hB⟩ := hrel
    have HG : Hid (firstErr (es.drop k) = firstErr es) := hg
    have HB : Hid (Below W0.heap.size W0 wr) := hB
    have hlw : w.heap.size < wr.heap.size := by have := hB.size; have := HS0.out; omega
    obtain ⟨⟨q0, q1, q2, q3, q4, q5, q6, q7, q8, q9, q10, q11, q12, q13⟩, -⟩ := cells14 (HX.out wr hB)
    clear hg
    by_cases hlt : k < es.length
    · obtain ⟨b, off, hea, hb, he⟩ := HEE.out.at hlt
      subst hea
      have he' := he.below hb (hB.mono (by have := HB0.out.size; omega))
      have HD : Hid (es.drop k = es.getD k nilEnt :: es.drop (k + 1)) := drop_at hlt
      generalize es.getD k nilEnt = e at *
      obtain ⟨et, ei, ek, eaa, ecc, ed⟩ := e
      obtain ⟨c0, c1, c2, c3, -⟩ := he'
      unfold Ent.x at c3
      simp only at c0 c1 c2 c3
      have hbw : b < wr.heap.size := by have := HB0.out.size; have := hB.size; omega
      have hgg := HG.out
      rw [HD.out] at hgg
      have HGG : Hid (firstErr ((⟨et, ei, ek, eaa, ecc, ed⟩ : Ent) :: List.drop (k + 1) es) = firstErr es) := hgg
      have ckA := fun w' => ckEntry_any et ei ek eaa ed.length ecc w'
      obtain ⟨K, hKK⟩ : ∃ K, ckEntry et ei ek ed.length = K := ⟨_, rfl⟩
      have HKK : Hid ((⟨et, ei, ek, eaa, ecc, ed⟩ : Ent).ck = K) := hKK
      rw [hKK] at ckA
      clear he hB hgg hKK
      by_cases hK : K = 0
      · subst hK
        go_wp2_with (go_at_call 73; refine (ckA _).mono ?_; rintro e w5 ⟨rfl, hB5⟩; have HB5 : Hid (Below W0.heap.size W0 w5) := (HB.out.alloc HB.out.size _).trans (hB5.mono (by have := HB.out.size; simp; omega)))
        refine ⟨⟨k + 1, by go_num, by omega, ?_, HB5.out⟩, by simp [intOf]; omega⟩
        rw [← HGG.out]
        exact (firstErr_ok HKK.out).symm
      · have hke : ((K : Int) != 0) = true := by simp; omega
        have HEK : Hid (ckApp tm ix lt es = K) := by
          show ckApp tm ix lt es = K
          have := HGG.out
          rw [firstErr_no (by rw [HKK.out]; exact hK), HKK.out] at this
          unfold ckApp
          rw [if_neg hn, ← this, if_pos hK]
        go_wp2_with (go_at_call 73; refine (ckA _).mono ?_; rintro e w5 ⟨rfl, hB5⟩; have HB5 : Hid (Below W0.heap.size W0 w5) := (HB.out.alloc HB.out.size _).trans (hB5.mono (by have := HB.out.size; simp; omega)))
        go_returns
        exact ⟨by rw [HEK.out]; rfl, HB0.out.trans (HB5.out.mono HB0.out.size)⟩
    · have HF0 : Hid (firstErr es = 0) := by
        have := HG.out
        rw [List.drop_of_length_le (by omega)] at this
        exact this.symm
      have HEK : Hid (ckApp tm ix lt es = fI (decide (tm < lt) || !((ix == 0) == (lt == 0)) || !goes tm ix lt es)) := by
        show ckApp tm ix lt es = _
        unfold ckApp
        rw [if_neg hn, HF0.out]
        rfl
      by_cases h1 : tm < lt
      · have h1' : decide (tm < lt) = true := by simpa using h1
        go_wp2_with (go_at_call 62; refine (formIf_any _ _).mono ?_; rintro e w' ⟨rfl, hw⟩; subst w')
        go_returns
        exact ⟨by rw [HEK.out, h1']; rfl, HB0.out.trans (HB.out.mono HB0.out.size)⟩
      · have h1' : decide (tm < lt) = false := by simpa using h1
        by_cases h2 : ((ix == 0) == (lt == 0)) = true
        · go_wp2_with (first
            | (go_at_call 63; refine (isPlace_any _ _ _ _ _ _ _ _ _ _ _ _ _ _ _ _ _ _ _).mono ?_; rintro e w6 ⟨rfl, hB6⟩; rw [h2]; have hB6' := HB.out.trans (hB6.mono HB.out.size); obtain ⟨⟨q0, q1, q2, q3, q4, q5, q6, q7, q8, q9, q10, q11, q12, q13⟩, -⟩ := cells14 (HX.out w6 hB6'))
            | (go_at_call 92; refine (goOn_any fr to tm ix lt cm hi cx rj ea ec es si st sa sn sc w6 N (HEE.out.below (hB6'.mono (by have := HS0.out; omega))) (by have := hB6'.size; have := HS0.out; omega) (by omega) hix).mono ?_; rintro e w7 ⟨rfl, hB7⟩; have hB7' := hB6'.trans (hB7.mono hB6'.size))
            | (go_at_call 62; refine (formIf_any _ _).mono ?_; rintro e w' ⟨rfl, hw⟩; subst w'))
          go_returns
          exact ⟨by rw [HEK.out, h1', h2]; rfl, HB0.out.trans (hB7'.mono HB0.out.size)⟩
        · have h2' : ((ix == 0) == (lt == 0)) = false := by simpa using h2
          go_wp2_with (first
            | (go_at_call 63; refine (isPlace_any _ _ _ _ _ _ _ _ _ _ _ _ _ _ _ _ _ _ _).mono ?_; rintro e w6 ⟨rfl, hB6⟩; rw [h2']; have hB6' := HB.out.trans (hB6.mono HB.out.size))
            | (go_at_call 62; refine (formIf_any _ _).mono ?_; rintro e w' ⟨rfl, hw⟩; subst w'))
          go_returns
          exact ⟨by rw [HEK.out, h1', h2']; rfl, HB0.out.trans (hB6'.mono HB0.out.size)⟩

end Go.Proofs.Ytfnnbfgfmbiabab

