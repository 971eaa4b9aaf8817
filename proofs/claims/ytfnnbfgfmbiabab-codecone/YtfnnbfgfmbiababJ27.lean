/-
  RefA.
-/
import Derived.Test.YtfnnbfgfmbiababJ21
/-
  The document's looks at a message's parts.
-/
namespace Go.Proofs.Ytfnnbfgfmbiabab
open Go.RowKit Go.Shelf

set_option maxRecDepth 100000 in
set_option maxHeartbeats 8000000 in
theorem number_any (n : Int) (w : World) : Calls Try.prog 46 #[.int .i64 n] w fun e w' => e = .returned (.bool (isIn n 0 4611686018427387904)) ∧ w' = w := by
  unfold isIn
  by_cases h : 0 ≤ n
  · have h' : decide (0 ≤ n) = true := by simpa using h
    go_enter Try.func46, Try.ntmps46
    go_wp2
    go_ret
    exact ⟨by simp [h], rfl⟩
  · have h' : decide (0 ≤ n) = false := by simpa using h
    go_enter Try.func46, Try.ntmps46
    go_wp2
    go_ret
    exact ⟨by simp, rfl⟩

set_option maxRecDepth 100000 in
set_option maxHeartbeats 8000000 in
theorem refNone_any (si st : Int) (sa : Option Addr) (sn sc : Nat) (w : World) : Calls Try.prog 50 #[.agg #[.int .i64 si, .int .i64 st, .slice sa sn sc]] w fun e w' => e = .returned (.bool ((si == 0) && (st == 0) && (sn == 0))) ∧ Below w.heap.size w w' := by
  have HB : Hid (∀ o0, Below w.heap.size w (w.alloc o0)) := fun _ => ((Below.refl _ w).alloc (by simp) _)
  go_enter Try.func50, Try.ntmps50
  go_wp2
  all_goals
    go_ret
    refine ⟨?_, HB.out _⟩
    simp_all [natz]

set_option maxRecDepth 100000 in
set_option maxHeartbeats 8000000 in
theorem refApp_any (fr to tm ix lt cm hi cx : Int) (rj : Bool) (ea : Option Addr) (ec : Nat) (es : List Ent) (si st : Int) (sa : Option Addr) (sn sc : Nat) (w : World) (N : Nat) (hE : EntsAt N w ea es) (hN : N ≤ w.heap.size) (hix : 0 ≤ ix ∧ ix ≤ 4611686018427387904) : Calls Try.prog 48 #[.agg #[.int .i64 3, .int .i64 fr, .int .i64 to, .int .i64 tm, .int .i64 ix, .int .i64 lt, .int .i64 cm, .int .i64 hi, .int .i64 cx, .bool rj, .slice ea es.length ec, .int .i64 si, .int .i64 st, .slice sa sn sc]] w fun e w' => e = .returned (.int .i64 (ckApp tm ix lt es : Int)) ∧ Below w.heap.size w w' := by
  obtain ⟨W0, hW0⟩ : ∃ W0, w.alloc (.cells #[.int .i64 3, .int .i64 fr, .int .i64 to, .int .i64 tm, .int .i64 ix, .int .i64 lt, .int .i64 cm, .int .i64 hi, .int .i64 cx, .bool rj, .slice ea es.length ec, .int .i64 si, .int .i64 st, .slice sa sn sc] 49) = W0 := ⟨_, rfl⟩
  have HW0 : Hid (w.alloc (.cells #[.int .i64 3, .int .i64 fr, .int .i64 to, .int .i64 tm, .int .i64 ix, .int .i64 lt, .int .i64 cm, .int .i64 hi, .int .i64 cx, .bool rj, .slice ea es.length ec, .int .i64 si, .int .i64 st, .slice sa sn sc] 49) = W0) := hW0
  have HB0 : Hid (Below w.heap.size w W0) := by show Below w.heap.size w W0; rw [← hW0]; exact (Below.refl _ w).alloc (by simp) _
  have HX : Hid (∀ w', Below W0.heap.size W0 w' → w'.heap[w.heap.size]? = some (.cells #[.int .i64 3, .int .i64 fr, .int .i64 to, .int .i64 tm, .int .i64 ix, .int .i64 lt, .int .i64 cm, .int .i64 hi, .int .i64 cx, .bool rj, .slice ea es.length ec, .int .i64 si, .int .i64 st, .slice sa sn sc] 49 (0, 0))) := fun w' hB => by
    refine (hB.block _ (by rw [← hW0]; simp)).trans ?_
    rw [← hW0]; exact World.alloc_heap_new w _
  have HS0 : Hid (W0.heap.size = w.heap.size + 1) := by show W0.heap.size = _; rw [← hW0]; simp
  have hE0 := hE.below (HB0.out.mono hN)
  obtain ⟨⟨q0, q1, q2, q3, q4, q5, q6, q7, q8, q9, q10, q11, q12, q13⟩, -⟩ := cells14 (HX.out W0 (Below.refl _ _))
  have HEE : Hid (EntsAt N W0 ea es) := hE0
  clear hE hE0 hW0
  by_cases hn : 64 < es.length
  case pos =>
    have hn' : (64 : Int) < (es.length : Int) := by omega
    have e0 : ckApp tm ix lt es = 3 := by simp [ckApp, hn]
    rw [e0]; clear e0
    go_enter Try.func48, Try.ntmps48
    go_wp2
    go_returns
    exact ⟨rfl, by have := HB0.out; rw [← HW0.out] at this; exact this⟩
  have hn' : (es.length : Int) ≤ 64 := by omega
  go_enter Try.func48, Try.ntmps48
  go_wp2_with fail
  rw [HW0.out]
  clear q0 q1 q2 q3 q4 q5 q6 q7 q8 q9 q10 q11 q12 q13
  go_loopw [3] (fun iv wr => ∃ (k : Nat), iv = .int .i64 (k : Int) ∧ k ≤ es.length ∧ firstErr (es.drop k) = firstErr es ∧ Below W0.heap.size W0 wr) (fun iv _ => es.length - (intOf iv).toNat)
  case atStart => exact ⟨0, rfl, Nat.zero_le _, by simp, Below.refl _ _⟩
  case round =>
    obtain ⟨k, rfl, hk, hg, hB⟩ := hrel
    have HG : Hid (firstErr (es.drop k) = firstErr es) := hg
    have HB : Hid (Below W0.heap.size W0 wr) := hB
    have hlw : w.heap.size < wr.heap.size := by have := hB.size; have := HS0.out; omega
    obtain ⟨⟨q0, q1, q2, q3, q4, q5, q6, q7, q8, q9, q10, q11, q12, q13⟩, -⟩ := cells14 (HX.out wr hB)
    clear hg
    by_cases hlt : k < es.length
    · obtain ⟨b, off, hea, hb, he⟩ := HEE.out.at hlt
      subst hea
      have he' := he.below hb (hB.mono (by have := HB0.out.size; omega))
      have HD : Hid (es.drop k = es.getD k nilEnt :: es.drop (k + 1)) := drop_at hlt
      generalize es.getD k nilEnt = e at *
      obtain ⟨et, ei, ek, eaa, ecc, ed⟩ := e
      obtain ⟨c0, c1, c2, c3, -⟩ := he'
      unfold Ent.x at c3
      simp only at c0 c1 c2 c3
      have hbw : b < wr.heap.size := by have := HB0.out.size; have := hB.size; omega
      have hgg := HG.out
      rw [HD.out] at hgg
      have HGG : Hid (firstErr ((⟨et, ei, ek, eaa, ecc, ed⟩ : Ent) :: List.drop (k + 1) es) = firstErr es) := hgg
      have ckA := fun w' => refCkEntry_any et ei ek eaa ed.length ecc w'
      obtain ⟨K, hKK⟩ : ∃ K, ckEntry et ei ek ed.length = K := ⟨_, rfl⟩
      have HKK : Hid ((⟨et, ei, ek, eaa, ecc, ed⟩ : Ent).ck = K) := hKK
      rw [hKK] at ckA
      clear he hB hgg hKK
      by_cases hK : K = 0
      · subst hK
        go_wp2_with (go_at_call 78; refine (ckA _).mono ?_; rintro e w5 ⟨rfl, hB5⟩; have HB5 : Hid (Below W0.heap.size W0 w5) := HB.out.trans (hB5.mono HB.out.size))
        refine ⟨⟨k + 1, by go_num, by omega, ?_, HB5.out⟩, by simp [intOf]; omega⟩
        rw [← HGG.out]
        exact (firstErr_ok HKK.out).symm
      · have hke : ((K : Int) != 0) = true := by simp; omega
        have HEK : Hid (ckApp tm ix lt es = K) := by
          show ckApp tm ix lt es = K
          have := HGG.out
          rw [firstErr_no (by rw [HKK.out]; exact hK), HKK.out] at this
          unfold ckApp
          rw [if_neg hn, ← this, if_pos hK]
        go_wp2_with (go_at_call 78; refine (ckA _).mono ?_; rintro e w5 ⟨rfl, hB5⟩; have HB5 : Hid (Below W0.heap.size W0 w5) := HB.out.trans (hB5.mono HB.out.size))
        go_returns
        exact ⟨by rw [HEK.out]; rfl, HB0.out.trans (HB5.out.mono HB0.out.size)⟩
    · have HF0 : Hid (firstErr es = 0) := by
        have := HG.out
        rw [List.drop_of_length_le (by omega)] at this
        exact this.symm
      have HEK : Hid (ckApp tm ix lt es = fI (decide (tm < lt) || !((ix == 0) == (lt == 0)) || !goes tm ix lt es)) := by
        show ckApp tm ix lt es = _
        unfold ckApp
        rw [if_neg hn, HF0.out]
        rfl
      by_cases h1 : tm < lt
      · have h1' : decide (tm < lt) = true := by simpa using h1
        go_wp2
        go_returns
        exact ⟨by rw [HEK.out, h1']; rfl, HB0.out.trans (HB.out.mono HB0.out.size)⟩
      have h1' : decide (tm < lt) = false := by simpa using h1
      by_cases h2 : ((ix == 0) == (lt == 0)) = true
      case neg =>
        have h2' : ((ix == 0) == (lt == 0)) = false := by simpa using h2
        have h2n : ((lt == 0) == (ix == 0)) = false := by revert h2'; cases (ix == 0) <;> cases (lt == 0) <;> simp
        clear h2
        go_wp2
        go_returns
        exact ⟨by rw [HEK.out, h1', h2']; rfl, HB0.out.trans (HB.out.mono HB0.out.size)⟩
      have h2n : ((lt == 0) == (ix == 0)) = true := by revert h2; cases (ix == 0) <;> cases (lt == 0) <;> simp
      have HEK2 : Hid (ckApp tm ix lt es = fI (!goes tm ix lt es)) := by
        show ckApp tm ix lt es = _
        rw [HEK.out, h1', h2]; rfl
      clear h2
      go_wp2
      rename_i K1 a1
      have HBo : Hid (Below W0.heap.size W0 wr) := HB.out
      go_loopw [5, 6] (fun tv iv wq => ∃ (j : Nat) (T : Int), iv = .int .i64 (j : Int) ∧ tv = .int .i64 T ∧ j ≤ es.length ∧ goes tm (ix + j) T (es.drop j) = goes tm ix lt es ∧ Below W0.heap.size W0 wq) (fun _ iv _ => es.length - (intOf iv).toNat)
      case atStart => exact ⟨0, lt, rfl, rfl, Nat.zero_le _, by simp, HBo.out⟩
      case round =>
        obtain ⟨j, T, rfl, rfl, hj, hg, hB⟩ := hrel
        have HG2 : Hid (goes tm (ix + j) T (es.drop j) = goes tm ix lt es) := hg
        have HB2 : Hid (Below W0.heap.size W0 wr) := hB
        have hlw2 : w.heap.size < wr.heap.size := by have := hB.size; have := HS0.out; omega
        obtain ⟨⟨q0, q1, q2, q3, q4, q5, q6, q7, q8, q9, q10, q11, q12, q13⟩, -⟩ := cells14 (HX.out wr hB)
        clear hg
        by_cases hjl : j < es.length
        · obtain ⟨b, off, hea, hb, he⟩ := HEE.out.at hjl
          subst hea
          have he' := he.below hb (hB.mono (by have := HB0.out.size; omega))
          have HD : Hid (es.drop j = es.getD j nilEnt :: es.drop (j + 1)) := drop_at hjl
          generalize es.getD j nilEnt = e at *
          obtain ⟨et, ei, ek, eaa, ecc, ed⟩ := e
          obtain ⟨c0, c1, c2, c3, -⟩ := he'
          unfold Ent.x at c3
          simp only at c0 c1 c2 c3
          have hbw : b < wr.heap.size := by have := HB0.out.size; have := hB.size; omega
          clear he hB
          have HNO : Hid (goes tm ix lt es = false → ckApp tm ix lt es = 4) := fun h => by rw [HEK2.out, h]; rfl
          by_cases h1 : ei = ix + 1 + j
          case neg =>
            have h1' : (ei == ix + 1 + (j : Int)) = false := by simpa using h1
            have h1n : (ei != ix + 1 + (j : Int)) = true := by simpa using h1
            go_wp2
            go_returns
            have hg := HG2.out
            rw [HD.out] at hg
            simp only [goes] at hg
            rw [show (ei == ix + (j : Int) + 1) = false by simp; omega] at hg
            exact ⟨by rw [HNO.out (by rw [← hg]; simp)]; rfl, HB0.out.trans ((HB2.out.alloc HB2.out.size _).mono HB0.out.size)⟩
          by_cases h2 : T ≤ et
          case neg =>
            have h2' : et < T := by omega
            go_wp2
            go_returns
            have hg := HG2.out
            rw [HD.out] at hg
            simp only [goes] at hg
            rw [show isIn et T tm = false by simp [isIn]; omega] at hg
            exact ⟨by rw [HNO.out (by rw [← hg]; simp)]; rfl, HB0.out.trans ((HB2.out.alloc HB2.out.size _).mono HB0.out.size)⟩
          have h2' : ¬ et < T := by omega
          by_cases h3 : et ≤ tm
          case neg =>
            have h3' : tm < et := by omega
            go_wp2
            go_returns
            have hg := HG2.out
            rw [HD.out] at hg
            simp only [goes] at hg
            rw [show isIn et T tm = false by simp [isIn]; omega] at hg
            exact ⟨by rw [HNO.out (by rw [← hg]; simp)]; rfl, HB0.out.trans ((HB2.out.alloc HB2.out.size _).mono HB0.out.size)⟩
          go_wp2
          refine ⟨⟨j + 1, et, by go_num, rfl, by omega, ?_, HB2.out.alloc HB2.out.size _⟩, by simp [intOf]; omega⟩
          have hg := HG2.out
          rw [HD.out] at hg
          simp only [goes] at hg
          rw [show isIn et T tm = true by simp [isIn]; omega, show (ei == ix + (j : Int) + 1) = true by simp; omega] at hg
          rw [show ix + ((j + 1 : Nat) : Int) = ix + (j : Int) + 1 by omega]
          simpa using hg
        · have HOK : Hid (ckApp tm ix lt es = 0) := by
            show ckApp tm ix lt es = 0
            have := HG2.out
            rw [List.drop_of_length_le (by omega)] at this
            rw [HEK2.out, ← this]; rfl
          go_wp2
          go_returns
          exact ⟨by rw [HOK.out]; rfl, HB0.out.trans (HB2.out.mono HB0.out.size)⟩

end Go.Proofs.Ytfnnbfgfmbiabab

