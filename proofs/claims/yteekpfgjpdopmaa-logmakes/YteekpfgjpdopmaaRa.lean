/-
  The document's look at what may stand in an append: numbers and entries.
-/
import Derived.Test.YteekpfgjpdopmaaEn
import Derived.Deep.RegionHeld3
import Derived.Handy
namespace Go.Proofs.Yteekpfgjpdopmaa
open Go.RowKit
set_option linter.unusedVariables false

theorem cells3 {w : World} {B : Nat} {x0 x1 x2 : Value} {t : TypeId} (h : w.heap[B]? = some (.cells #[x0, x1, x2] t (0, 0))) :
    (w.cell? ⟨B, 0, none⟩ = some x0 ∧ w.cell? ⟨B, 1, none⟩ = some x1 ∧ w.cell? ⟨B, 2, none⟩ = some x2) ∧ (w.frozen? ⟨B, 0, none⟩ = false ∧ w.frozen? ⟨B, 1, none⟩ = false ∧ w.frozen? ⟨B, 2, none⟩ = false) := by
  refine ⟨⟨?_, ?_, ?_⟩, ⟨?_, ?_, ?_⟩⟩ <;> simp [World.cell?, World.frozen?, h]
set_option maxHeartbeats 8000000 in
theorem cells14 {w : World} {B : Nat} {x0 x1 x2 x3 x4 x5 x6 x7 x8 x9 x10 x11 x12 x13 : Value} {t : TypeId} (h : w.heap[B]? = some (.cells #[x0, x1, x2, x3, x4, x5, x6, x7, x8, x9, x10, x11, x12, x13] t (0, 0))) :
    (w.cell? ⟨B, 0, none⟩ = some x0 ∧ w.cell? ⟨B, 1, none⟩ = some x1 ∧ w.cell? ⟨B, 2, none⟩ = some x2 ∧ w.cell? ⟨B, 3, none⟩ = some x3 ∧ w.cell? ⟨B, 4, none⟩ = some x4 ∧ w.cell? ⟨B, 5, none⟩ = some x5 ∧ w.cell? ⟨B, 6, none⟩ = some x6 ∧ w.cell? ⟨B, 7, none⟩ = some x7 ∧ w.cell? ⟨B, 8, none⟩ = some x8 ∧ w.cell? ⟨B, 9, none⟩ = some x9 ∧ w.cell? ⟨B, 10, none⟩ = some x10 ∧ w.cell? ⟨B, 11, none⟩ = some x11 ∧ w.cell? ⟨B, 12, none⟩ = some x12 ∧ w.cell? ⟨B, 13, none⟩ = some x13) ∧ (w.frozen? ⟨B, 0, none⟩ = false ∧ w.frozen? ⟨B, 1, none⟩ = false ∧ w.frozen? ⟨B, 2, none⟩ = false ∧ w.frozen? ⟨B, 3, none⟩ = false ∧ w.frozen? ⟨B, 4, none⟩ = false ∧ w.frozen? ⟨B, 5, none⟩ = false ∧ w.frozen? ⟨B, 6, none⟩ = false ∧ w.frozen? ⟨B, 7, none⟩ = false ∧ w.frozen? ⟨B, 8, none⟩ = false ∧ w.frozen? ⟨B, 9, none⟩ = false ∧ w.frozen? ⟨B, 10, none⟩ = false ∧ w.frozen? ⟨B, 11, none⟩ = false ∧ w.frozen? ⟨B, 12, none⟩ = false ∧ w.frozen? ⟨B, 13, none⟩ = false) := by
  refine ⟨⟨?_, ?_, ?_, ?_, ?_, ?_, ?_, ?_, ?_, ?_, ?_, ?_, ?_, ?_⟩, ⟨?_, ?_, ?_, ?_, ?_, ?_, ?_, ?_, ?_, ?_, ?_, ?_, ?_, ?_⟩⟩
  all_goals first | (simp only [World.cell?, h]; rfl) | (simp only [World.frozen?, h]; rfl)

theorem natz (n : Nat) : ((n : Int) == 0) = (n == 0) := by rw [Bool.eq_iff_iff]; simp

/-- Are a message's numbers in range? -/
def msgRange (fr to tm ix lt cm hi cx : Int) : Bool :=
  isIn fr 1 7 && isIn to 1 7 && isIn tm 1 4611686018427387904 && isIn ix 0 4611686018427387904 && isIn lt 0 4611686018427387904 && isIn cm 0 4611686018427387904 && isIn hi 0 4611686018427387904 && isIn cx 0 4611686018427387904

/-- Is nothing said beside what every message says? -/
def blank (ix lt cm hi cx : Int) (rj : Bool) (en : Nat) (si st : Int) (sn : Nat) : Bool :=
  (ix == 0) && (lt == 0) && (cm == 0) && (hi == 0) && (cx == 0) && !rj && (en == 0) && ((si == 0) && (st == 0) && (sn == 0))

/-- The error of a wrong form. -/
def fI (b : Bool) : Nat := if b then 4 else 0

set_option maxRecDepth 100000 in
set_option maxHeartbeats 400000 in
theorem refWithin_any (n a b : Int) (w : World) : Calls Try.prog 81 #[.int .i64 n, .int .i64 a, .int .i64 b] w fun e w' => e = .returned (.bool (isIn n a b)) ∧ w' = w := by
  unfold isIn
  by_cases h : a ≤ n
  · have h' : decide (a ≤ n) = true := by simpa using h
    go_enter Try.func81, Try.ntmps81
    go_wp2
    go_ret
    exact ⟨by simp [h], rfl⟩
  · have h' : decide (a ≤ n) = false := by simpa using h
    go_enter Try.func81, Try.ntmps81
    go_wp2
    go_ret
    exact ⟨by simp, rfl⟩

set_option maxRecDepth 100000 in
set_option maxHeartbeats 1000000 in
theorem refCkEntry_any (t i k : Int) (a : Option Addr) (n cap : Nat) (w : World) : Calls Try.prog 44 #[.agg #[.int .i64 t, .int .i64 i, .int .i64 k, .slice a n cap]] w fun e w' => e = .returned (.int .i64 (ckEntry t i k n : Int)) ∧ Below w.heap.size w w' := by
  have HB : Hid (∀ o0, Below w.heap.size w (w.alloc o0)) := fun _ => ((Below.refl _ w).alloc (by simp) _)
  go_enter Try.func44, Try.ntmps44
  go_wp2_with ((go_at_call 81; refine (refWithin_any _ _ _ _).mono ?_; rintro e w' ⟨rfl, hw⟩; subst w'))
  all_goals
    go_ret
    refine ⟨?_, HB.out _⟩
    first
    | (simp_all [ckEntry]; done)
    | (simp_all [ckEntry]; split <;> omega)

def Ent.ck (e : Ent) : Nat := ckEntry e.t e.i e.k e.d.length
/-- The first error of entries. -/
def firstErrR : List Ent → Nat
  | [] => 0
  | e :: r => if e.ck ≠ 0 then e.ck else firstErrR r
/-- Do they go on from a place, up to a term? -/
def goes (tm : Int) : Int → Int → List Ent → Bool
  | _, _, [] => true
  | ix, lt, e :: r => (e.i == ix + 1) && isIn e.t lt tm && goes tm (ix + 1) e.t r
theorem firstErrR_ok {e : Ent} {r : List Ent} (h : e.ck = 0) : firstErrR (e :: r) = firstErrR r := by simp [firstErrR, h]
theorem firstErrR_no {e : Ent} {r : List Ent} (h : e.ck ≠ 0) : firstErrR (e :: r) = e.ck := by simp [firstErrR, h]
/-- What may be of an append. -/
def ckApp (tm ix lt : Int) (es : List Ent) : Nat :=
  if 64 < es.length then 3 else if firstErrR es ≠ 0 then firstErrR es else fI (decide (tm < lt) || !((ix == 0) == (lt == 0)) || !goes tm ix lt es)

set_option maxRecDepth 100000 in
set_option maxHeartbeats 8000000 in
theorem number_any (n : Int) (w : World) : Calls Try.prog 43 #[.int .i64 n] w fun e w' => e = .returned (.bool (isIn n 0 4611686018427387904)) ∧ w' = w := by
  unfold isIn
  by_cases h : 0 ≤ n
  · have h' : decide (0 ≤ n) = true := by simpa using h
    go_enter Try.func43, Try.ntmps43
    go_wp2
    go_ret
    exact ⟨by simp [h], rfl⟩
  · have h' : decide (0 ≤ n) = false := by simpa using h
    go_enter Try.func43, Try.ntmps43
    go_wp2
    go_ret
    exact ⟨by simp, rfl⟩

set_option maxRecDepth 100000 in
set_option maxHeartbeats 8000000 in
theorem refApp_any (fr to tm ix lt cm hi cx : Int) (rj : Bool) (ea : Option Addr) (ec : Nat) (es : List Ent) (si st : Int) (sa : Option Addr) (sn sc : Nat) (w : World) (N : Nat) (hE : EntsAt N w ea es) (hN : N ≤ w.heap.size) (hix : 0 ≤ ix ∧ ix ≤ 4611686018427387904) : Calls Try.prog 87 #[.agg #[.int .i64 3, .int .i64 fr, .int .i64 to, .int .i64 tm, .int .i64 ix, .int .i64 lt, .int .i64 cm, .int .i64 hi, .int .i64 cx, .bool rj, .slice ea es.length ec, .int .i64 si, .int .i64 st, .slice sa sn sc]] w fun e w' => e = .returned (.int .i64 (ckApp tm ix lt es : Int)) ∧ Below w.heap.size w w' := by
  obtain ⟨W0, hW0⟩ : ∃ W0, w.alloc (.cells #[.int .i64 3, .int .i64 fr, .int .i64 to, .int .i64 tm, .int .i64 ix, .int .i64 lt, .int .i64 cm, .int .i64 hi, .int .i64 cx, .bool rj, .slice ea es.length ec, .int .i64 si, .int .i64 st, .slice sa sn sc] 103) = W0 := ⟨_, rfl⟩
  have HW0 : Hid (w.alloc (.cells #[.int .i64 3, .int .i64 fr, .int .i64 to, .int .i64 tm, .int .i64 ix, .int .i64 lt, .int .i64 cm, .int .i64 hi, .int .i64 cx, .bool rj, .slice ea es.length ec, .int .i64 si, .int .i64 st, .slice sa sn sc] 103) = W0) := hW0
  have HB0 : Hid (Below w.heap.size w W0) := by show Below w.heap.size w W0; rw [← hW0]; exact (Below.refl _ w).alloc (by simp) _
  have HX : Hid (∀ w', Below W0.heap.size W0 w' → w'.heap[w.heap.size]? = some (.cells #[.int .i64 3, .int .i64 fr, .int .i64 to, .int .i64 tm, .int .i64 ix, .int .i64 lt, .int .i64 cm, .int .i64 hi, .int .i64 cx, .bool rj, .slice ea es.length ec, .int .i64 si, .int .i64 st, .slice sa sn sc] 103 (0, 0))) := fun w' hB => by
    refine (hB.block _ (by rw [← hW0]; simp)).trans ?_
    rw [← hW0]; exact heap_alloc_new w _
  have HS0 : Hid (W0.heap.size = w.heap.size + 1) := by show W0.heap.size = _; rw [← hW0]; simp
  have hE0 := hE.below (HB0.out.mono hN)
  obtain ⟨⟨q0, q1, q2, q3, q4, q5, q6, q7, q8, q9, q10, q11, q12, q13⟩, -⟩ := cells14 (HX.out W0 (Below.refl _ _))
  have HEE : Hid (EntsAt N W0 ea es) := hE0
  clear hE hE0 hW0
  by_cases hn : 64 < es.length
  case pos =>
    have hn' : (64 : Int) < (es.length : Int) := by omega
    have e0 : ckApp tm ix lt es = 3 := by simp [ckApp, hn]
    rw [e0]; clear e0
    go_enter Try.func87, Try.ntmps87
    go_wp2
    go_returns
    exact ⟨rfl, by have := HB0.out; rw [← HW0.out] at this; exact this⟩
  have hn' : (es.length : Int) ≤ 64 := by omega
  go_enter Try.func87, Try.ntmps87
  go_wp2_with fail
  rw [HW0.out]
  clear q0 q1 q2 q3 q4 q5 q6 q7 q8 q9 q10 q11 q12 q13
  go_loopw [3] (fun iv wr => ∃ (k : Nat), iv = .int .i64 (k : Int) ∧ k ≤ es.length ∧ firstErrR (es.drop k) = firstErrR es ∧ Below W0.heap.size W0 wr) (fun iv _ => es.length - (intOf iv).toNat)
  case atStart => exact ⟨0, rfl, Nat.zero_le _, by simp, Below.refl _ _⟩
  case round =>
    obtain ⟨k, rfl, hk, hg, hB⟩ := hrel
    have HG : Hid (firstErrR (es.drop k) = firstErrR es) := hg
    have HB : Hid (Below W0.heap.size W0 wr) := hB
    have hlw : w.heap.size < wr.heap.size := by have := hB.size; have := HS0.out; omega
    obtain ⟨⟨q0, q1, q2, q3, q4, q5, q6, q7, q8, q9, q10, q11, q12, q13⟩, -⟩ := cells14 (HX.out wr hB)
    clear hg
    by_cases hlt : k < es.length
    · obtain ⟨b, off, hea, hb, he⟩ := HEE.out.at hlt
      subst hea
      have he' := he.below hb (hB.mono (by have := HB0.out.size; omega))
      have HD : Hid (es.drop k = es.getD k nilEnt :: es.drop (k + 1)) := drop_at hlt
      generalize es.getD k nilEnt = e at *
      obtain ⟨et, ei, ek, eaa, ecc, ed⟩ := e
      obtain ⟨c0, c1, c2, c3, -⟩ := he'
      unfold Ent.x at c3
      simp only at c0 c1 c2 c3
      have hbw : b < wr.heap.size := by have := HB0.out.size; have := hB.size; omega
      have hgg := HG.out
      rw [HD.out] at hgg
      have HGG : Hid (firstErrR ((⟨et, ei, ek, eaa, ecc, ed⟩ : Ent) :: List.drop (k + 1) es) = firstErrR es) := hgg
      have ckA := fun w' => refCkEntry_any et ei ek eaa ed.length ecc w'
      obtain ⟨K, hKK⟩ : ∃ K, ckEntry et ei ek ed.length = K := ⟨_, rfl⟩
      have HKK : Hid ((⟨et, ei, ek, eaa, ecc, ed⟩ : Ent).ck = K) := hKK
      rw [hKK] at ckA
      clear he hB hgg hKK
      by_cases hK : K = 0
      · subst hK
        go_wp2_with (go_at_call 44; refine (ckA _).mono ?_; rintro e w5 ⟨rfl, hB5⟩; have HB5 : Hid (Below W0.heap.size W0 w5) := HB.out.trans (hB5.mono HB.out.size))
        refine ⟨⟨k + 1, by go_num, by omega, ?_, HB5.out⟩, by simp [intOf]; omega⟩
        rw [← HGG.out]
        exact (firstErrR_ok HKK.out).symm
      · have hke : ((K : Int) != 0) = true := by simp; omega
        have HEK : Hid (ckApp tm ix lt es = K) := by
          show ckApp tm ix lt es = K
          have := HGG.out
          rw [firstErrR_no (by rw [HKK.out]; exact hK), HKK.out] at this
          unfold ckApp
          rw [if_neg hn, ← this, if_pos hK]
        go_wp2_with (go_at_call 44; refine (ckA _).mono ?_; rintro e w5 ⟨rfl, hB5⟩; have HB5 : Hid (Below W0.heap.size W0 w5) := HB.out.trans (hB5.mono HB.out.size))
        go_returns
        exact ⟨by rw [HEK.out]; rfl, HB0.out.trans (HB5.out.mono HB0.out.size)⟩
    · have HF0 : Hid (firstErrR es = 0) := by
        have := HG.out
        rw [List.drop_of_length_le (by omega)] at this
        exact this.symm
      have HEK : Hid (ckApp tm ix lt es = fI (decide (tm < lt) || !((ix == 0) == (lt == 0)) || !goes tm ix lt es)) := by
        show ckApp tm ix lt es = _
        unfold ckApp
        rw [if_neg hn, HF0.out]
        rfl
      by_cases h1 : tm < lt
      · have h1' : decide (tm < lt) = true := by simpa using h1
        go_wp2
        go_returns
        exact ⟨by rw [HEK.out, h1']; rfl, HB0.out.trans (HB.out.mono HB0.out.size)⟩
      have h1' : decide (tm < lt) = false := by simpa using h1
      by_cases h2 : ((ix == 0) == (lt == 0)) = true
      case neg =>
        have h2' : ((ix == 0) == (lt == 0)) = false := by simpa using h2
        have h2n : ((lt == 0) == (ix == 0)) = false := by revert h2'; cases (ix == 0) <;> cases (lt == 0) <;> simp
        clear h2
        go_wp2
        go_returns
        exact ⟨by rw [HEK.out, h1', h2']; rfl, HB0.out.trans (HB.out.mono HB0.out.size)⟩
      have h2n : ((lt == 0) == (ix == 0)) = true := by revert h2; cases (ix == 0) <;> cases (lt == 0) <;> simp
      have HEK2 : Hid (ckApp tm ix lt es = fI (!goes tm ix lt es)) := by
        show ckApp tm ix lt es = _
        rw [HEK.out, h1', h2]; rfl
      clear h2
      go_wp2
      rename_i K1 a1
      have HBo : Hid (Below W0.heap.size W0 wr) := HB.out
      go_loopw [5, 6] (fun tv iv wq => ∃ (j : Nat) (T : Int), iv = .int .i64 (j : Int) ∧ tv = .int .i64 T ∧ j ≤ es.length ∧ goes tm (ix + j) T (es.drop j) = goes tm ix lt es ∧ Below W0.heap.size W0 wq) (fun _ iv _ => es.length - (intOf iv).toNat)
      case atStart => exact ⟨0, lt, rfl, rfl, Nat.zero_le _, by simp, HBo.out⟩
      case round =>
        obtain ⟨j, T, rfl, rfl, hj, hg, hB⟩ := hrel
        have HG2 : Hid (goes tm (ix + j) T (es.drop j) = goes tm ix lt es) := hg
        have HB2 : Hid (Below W0.heap.size W0 wr) := hB
        have hlw2 : w.heap.size < wr.heap.size := by have := hB.size; have := HS0.out; omega
        obtain ⟨⟨q0, q1, q2, q3, q4, q5, q6, q7, q8, q9, q10, q11, q12, q13⟩, -⟩ := cells14 (HX.out wr hB)
        clear hg
        by_cases hjl : j < es.length
        · obtain ⟨b, off, hea, hb, he⟩ := HEE.out.at hjl
          subst hea
          have he' := he.below hb (hB.mono (by have := HB0.out.size; omega))
          have HD : Hid (es.drop j = es.getD j nilEnt :: es.drop (j + 1)) := drop_at hjl
          generalize es.getD j nilEnt = e at *
          obtain ⟨et, ei, ek, eaa, ecc, ed⟩ := e
          obtain ⟨c0, c1, c2, c3, -⟩ := he'
          unfold Ent.x at c3
          simp only at c0 c1 c2 c3
          have hbw : b < wr.heap.size := by have := HB0.out.size; have := hB.size; omega
          clear he hB
          have HNO : Hid (goes tm ix lt es = false → ckApp tm ix lt es = 4) := fun h => by rw [HEK2.out, h]; rfl
          by_cases h1 : ei = ix + 1 + j
          case neg =>
            have h1' : (ei == ix + 1 + (j : Int)) = false := by simpa using h1
            have h1n : (ei != ix + 1 + (j : Int)) = true := by simpa using h1
            go_wp2
            go_returns
            have hg := HG2.out
            rw [HD.out] at hg
            simp only [goes] at hg
            rw [show (ei == ix + (j : Int) + 1) = false by simp; omega] at hg
            exact ⟨by rw [HNO.out (by rw [← hg]; simp)]; rfl, HB0.out.trans ((HB2.out.alloc HB2.out.size _).mono HB0.out.size)⟩
          by_cases h2 : T ≤ et
          case neg =>
            have h2' : et < T := by omega
            go_wp2
            go_returns
            have hg := HG2.out
            rw [HD.out] at hg
            simp only [goes] at hg
            rw [show isIn et T tm = false by simp [isIn]; omega] at hg
            exact ⟨by rw [HNO.out (by rw [← hg]; simp)]; rfl, HB0.out.trans ((HB2.out.alloc HB2.out.size _).mono HB0.out.size)⟩
          have h2' : ¬ et < T := by omega
          by_cases h3 : et ≤ tm
          case neg =>
            have h3' : tm < et := by omega
            go_wp2
            go_returns
            have hg := HG2.out
            rw [HD.out] at hg
            simp only [goes] at hg
            rw [show isIn et T tm = false by simp [isIn]; omega] at hg
            exact ⟨by rw [HNO.out (by rw [← hg]; simp)]; rfl, HB0.out.trans ((HB2.out.alloc HB2.out.size _).mono HB0.out.size)⟩
          go_wp2
          refine ⟨⟨j + 1, et, by go_num, rfl, by omega, ?_, HB2.out.alloc HB2.out.size _⟩, by simp [intOf]; omega⟩
          have hg := HG2.out
          rw [HD.out] at hg
          simp only [goes] at hg
          rw [show isIn et T tm = true by simp [isIn]; omega, show (ei == ix + (j : Int) + 1) = true by simp; omega] at hg
          rw [show ix + ((j + 1 : Nat) : Int) = ix + (j : Int) + 1 by omega]
          simpa using hg
        · have HOK : Hid (ckApp tm ix lt es = 0) := by
            show ckApp tm ix lt es = 0
            have := HG2.out
            rw [List.drop_of_length_le (by omega)] at this
            rw [HEK2.out, ← this]; rfl
          go_wp2
          go_returns
          exact ⟨by rw [HOK.out]; rfl, HB0.out.trans (HB2.out.mono HB0.out.size)⟩

end Go.Proofs.Yteekpfgjpdopmaa
