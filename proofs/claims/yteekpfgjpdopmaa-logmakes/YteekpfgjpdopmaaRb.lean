/-
  The document's look at what may stand in an append: the whole.
-/
import Derived.Test.YteekpfgjpdopmaaRa
import Derived.Deep.RegionHeld3
import Derived.Handy
namespace Go.Proofs.Yteekpfgjpdopmaa
open Go.RowKit
set_option linter.unusedVariables false

set_option maxRecDepth 100000 in
set_option maxHeartbeats 8000000 in
theorem refRangeNo_any (kd fr to tm ix lt cm hi cx : Int) (rj : Bool) (ea : Option Addr) (en ec : Nat) (si st : Int) (sa : Option Addr) (sn sc : Nat) (w : World) (hK : isIn kd 1 7 = true) (hR : msgRange fr to tm ix lt cm hi cx = false) : Calls Try.prog 77 #[.agg #[.int .i64 kd, .int .i64 fr, .int .i64 to, .int .i64 tm, .int .i64 ix, .int .i64 lt, .int .i64 cm, .int .i64 hi, .int .i64 cx, .bool rj, .slice ea en ec, .int .i64 si, .int .i64 st, .slice sa sn sc]] w fun e w' => e = .returned (.int .i64 1) ∧ Below w.heap.size w w' := by
  have HB : Hid (∀ o0, Below w.heap.size w (w.alloc o0)) := fun _ => ((Below.refl _ w).alloc (by simp) _)
  by_cases g0 : isIn fr 1 7 = true
  case neg =>
    simp only [Bool.not_eq_true] at g0
    go_enter Try.func77, Try.ntmps77
    go_wp2_with (first
      | (go_at_call 81; refine (refWithin_any _ _ _ _).mono ?_; rintro e w' ⟨rfl, hw⟩; subst w'; (try (first | rw [hK] | rw [g0])))
      | (go_at_call 43; refine (number_any _ _).mono ?_; rintro e w' ⟨rfl, hw⟩; subst w'; (try (first | rw [hK] | rw [g0]))))
    all_goals
      go_returns
      exact ⟨rfl, HB.out _⟩
  by_cases g1 : isIn to 1 7 = true
  case neg =>
    simp only [Bool.not_eq_true] at g1
    go_enter Try.func77, Try.ntmps77
    go_wp2_with (first
      | (go_at_call 81; refine (refWithin_any _ _ _ _).mono ?_; rintro e w' ⟨rfl, hw⟩; subst w'; (try (first | rw [hK] | rw [g0] | rw [g1])))
      | (go_at_call 43; refine (number_any _ _).mono ?_; rintro e w' ⟨rfl, hw⟩; subst w'; (try (first | rw [hK] | rw [g0] | rw [g1]))))
    all_goals
      go_returns
      exact ⟨rfl, HB.out _⟩
  by_cases g2 : isIn tm 1 4611686018427387904 = true
  case neg =>
    simp only [Bool.not_eq_true] at g2
    go_enter Try.func77, Try.ntmps77
    go_wp2_with (first
      | (go_at_call 81; refine (refWithin_any _ _ _ _).mono ?_; rintro e w' ⟨rfl, hw⟩; subst w'; (try (first | rw [hK] | rw [g0] | rw [g1] | rw [g2])))
      | (go_at_call 43; refine (number_any _ _).mono ?_; rintro e w' ⟨rfl, hw⟩; subst w'; (try (first | rw [hK] | rw [g0] | rw [g1] | rw [g2]))))
    all_goals
      go_returns
      exact ⟨rfl, HB.out _⟩
  by_cases g3 : isIn ix 0 4611686018427387904 = true
  case neg =>
    simp only [Bool.not_eq_true] at g3
    go_enter Try.func77, Try.ntmps77
    go_wp2_with (first
      | (go_at_call 81; refine (refWithin_any _ _ _ _).mono ?_; rintro e w' ⟨rfl, hw⟩; subst w'; (try (first | rw [hK] | rw [g0] | rw [g1] | rw [g2] | rw [g3])))
      | (go_at_call 43; refine (number_any _ _).mono ?_; rintro e w' ⟨rfl, hw⟩; subst w'; (try (first | rw [hK] | rw [g0] | rw [g1] | rw [g2] | rw [g3]))))
    all_goals
      go_returns
      exact ⟨rfl, HB.out _⟩
  by_cases g4 : isIn lt 0 4611686018427387904 = true
  case neg =>
    simp only [Bool.not_eq_true] at g4
    go_enter Try.func77, Try.ntmps77
    go_wp2_with (first
      | (go_at_call 81; refine (refWithin_any _ _ _ _).mono ?_; rintro e w' ⟨rfl, hw⟩; subst w'; (try (first | rw [hK] | rw [g0] | rw [g1] | rw [g2] | rw [g3] | rw [g4])))
      | (go_at_call 43; refine (number_any _ _).mono ?_; rintro e w' ⟨rfl, hw⟩; subst w'; (try (first | rw [hK] | rw [g0] | rw [g1] | rw [g2] | rw [g3] | rw [g4]))))
    all_goals
      go_returns
      exact ⟨rfl, HB.out _⟩
  by_cases g5 : isIn cm 0 4611686018427387904 = true
  case neg =>
    simp only [Bool.not_eq_true] at g5
    go_enter Try.func77, Try.ntmps77
    go_wp2_with (first
      | (go_at_call 81; refine (refWithin_any _ _ _ _).mono ?_; rintro e w' ⟨rfl, hw⟩; subst w'; (try (first | rw [hK] | rw [g0] | rw [g1] | rw [g2] | rw [g3] | rw [g4] | rw [g5])))
      | (go_at_call 43; refine (number_any _ _).mono ?_; rintro e w' ⟨rfl, hw⟩; subst w'; (try (first | rw [hK] | rw [g0] | rw [g1] | rw [g2] | rw [g3] | rw [g4] | rw [g5]))))
    all_goals
      go_returns
      exact ⟨rfl, HB.out _⟩
  by_cases g6 : isIn hi 0 4611686018427387904 = true
  case neg =>
    simp only [Bool.not_eq_true] at g6
    go_enter Try.func77, Try.ntmps77
    go_wp2_with (first
      | (go_at_call 81; refine (refWithin_any _ _ _ _).mono ?_; rintro e w' ⟨rfl, hw⟩; subst w'; (try (first | rw [hK] | rw [g0] | rw [g1] | rw [g2] | rw [g3] | rw [g4] | rw [g5] | rw [g6])))
      | (go_at_call 43; refine (number_any _ _).mono ?_; rintro e w' ⟨rfl, hw⟩; subst w'; (try (first | rw [hK] | rw [g0] | rw [g1] | rw [g2] | rw [g3] | rw [g4] | rw [g5] | rw [g6]))))
    all_goals
      go_returns
      exact ⟨rfl, HB.out _⟩
  by_cases g7 : isIn cx 0 4611686018427387904 = true
  case neg =>
    simp only [Bool.not_eq_true] at g7
    go_enter Try.func77, Try.ntmps77
    go_wp2_with (first
      | (go_at_call 81; refine (refWithin_any _ _ _ _).mono ?_; rintro e w' ⟨rfl, hw⟩; subst w'; (try (first | rw [hK] | rw [g0] | rw [g1] | rw [g2] | rw [g3] | rw [g4] | rw [g5] | rw [g6] | rw [g7])))
      | (go_at_call 43; refine (number_any _ _).mono ?_; rintro e w' ⟨rfl, hw⟩; subst w'; (try (first | rw [hK] | rw [g0] | rw [g1] | rw [g2] | rw [g3] | rw [g4] | rw [g5] | rw [g6] | rw [g7]))))
    all_goals
      go_returns
      exact ⟨rfl, HB.out _⟩
  exfalso
  simp [msgRange, g0, g1, g2, g3, g4, g5, g6, g7] at hR

set_option maxRecDepth 100000 in
set_option maxHeartbeats 8000000 in
theorem used3_any (fr to tm ix lt cm hi cx : Int) (rj : Bool) (ea : Option Addr) (en ec : Nat) (si st : Int) (sa : Option Addr) (sn sc : Nat) (w : World) : Calls Try.prog 86 #[.agg #[.int .i64 3, .int .i64 fr, .int .i64 to, .int .i64 tm, .int .i64 ix, .int .i64 lt, .int .i64 cm, .int .i64 hi, .int .i64 cx, .bool rj, .slice ea en ec, .int .i64 si, .int .i64 st, .slice sa sn sc]] w fun e w' => e = .returned (.agg #[.int .i64 3, .int .i64 fr, .int .i64 to, .int .i64 tm, .int .i64 ix, .int .i64 lt, .int .i64 cm, .int .i64 0, .int .i64 0, .bool false, .slice ea en ec, .int .i64 0, .int .i64 0, .slice none 0 0]) ∧ Below w.heap.size w w' := by
  have HB : Hid (∀ o0 o1 o2, Below w.heap.size w (((w.alloc o0).alloc o1).alloc o2)) := fun _ _ _ => (((Below.refl _ w).alloc (by simp) _).alloc (by simp) _).alloc (by simp; omega) _
  go_enter Try.func86, Try.ntmps86
  go_wp2
  go_returns
  exact ⟨rfl, HB.out _ _ _⟩

set_option maxRecDepth 100000 in
set_option maxHeartbeats 8000000 in
theorem sameSnap_any (i1 t1 : Int) (a1 : Option Addr) (c1 : Nat) (m1 : List UInt8) (i2 t2 : Int) (a2 : Option Addr) (c2 : Nat) (m2 : List UInt8) (M : Nat) (w : World) (h1 : Sl M w (.slice a1 m1.length c1) m1) (h2 : Sl M w (.slice a2 m2.length c2) m2) (hM : M ≤ w.heap.size) :
    Calls Try.prog 90 #[.agg #[.int .i64 i1, .int .i64 t1, .slice a1 m1.length c1], .agg #[.int .i64 i2, .int .i64 t2, .slice a2 m2.length c2]] w fun e w' => e = .returned (.bool (decide (m1 = m2) && (i1 == i2) && (t1 == t2))) ∧ Below w.heap.size w w' := by
  obtain ⟨W0, hW0⟩ : ∃ W0, (w.alloc (.cells #[.int .i64 i1, .int .i64 t1, .slice a1 m1.length c1] 101)).alloc (.cells #[.int .i64 i2, .int .i64 t2, .slice a2 m2.length c2] 101) = W0 := ⟨_, rfl⟩
  have HW0 : Hid ((w.alloc (.cells #[.int .i64 i1, .int .i64 t1, .slice a1 m1.length c1] 101)).alloc (.cells #[.int .i64 i2, .int .i64 t2, .slice a2 m2.length c2] 101) = W0) := hW0
  have HB0 : Hid (Below w.heap.size w W0) := by show Below w.heap.size w W0; rw [← hW0]; exact (((Below.refl _ w).alloc (by simp) _).alloc (by simp) _)
  have HX : Hid (W0.heap[w.heap.size]? = some (.cells #[.int .i64 i1, .int .i64 t1, .slice a1 m1.length c1] 101 (0, 0))) := by
    show W0.heap[w.heap.size]? = _
    rw [← hW0]; exact (((Below.refl (w.heap.size + 1) (w.alloc _)).alloc (by simp) _).block _ (by simp)).trans (heap_alloc_new w _)
  have HY : Hid (W0.heap[w.heap.size + 1]? = some (.cells #[.int .i64 i2, .int .i64 t2, .slice a2 m2.length c2] 101 (0, 0))) := by
    show W0.heap[w.heap.size + 1]? = _
    rw [← hW0]; simpa using heap_alloc_new (w.alloc (.cells #[.int .i64 i1, .int .i64 t1, .slice a1 m1.length c1] 101)) _
  clear hW0
  have g1 := h1.below (HB0.out.mono hM)
  have g2 := h2.below (HB0.out.mono hM)
  go_enter Try.func90, Try.ntmps90
  go_wp2_with fail
  rw [HW0.out]
  refine (same_any M _ _ m1 m2 W0 g1 g2).mono ?_
  rintro e w1 ⟨rfl, n1, hw1⟩
  have HB1 : Hid (Below w.heap.size w w1) := by show Below _ _ _; rw [hw1]; exact HB0.out.trans ⟨rfl, rfl, rfl, Nat.le_refl _, fun _ _ => rfl⟩
  obtain ⟨⟨p0, p1, p2⟩, -⟩ := cells3 (show w1.heap[w.heap.size]? = _ by rw [hw1]; exact HX.out)
  obtain ⟨⟨q0, q1, q2⟩, -⟩ := cells3 (show w1.heap[w.heap.size + 1]? = _ by rw [hw1]; exact HY.out)
  clear hw1 g1 g2 h1 h2
  go_wp2
  all_goals
    go_ret
    refine ⟨?_, HB1.out⟩
    simp_all

set_option maxRecDepth 100000 in
set_option maxHeartbeats 8000000 in
theorem sameMsg_any (kd1 fr1 to1 tm1 ix1 lt1 cm1 hi1 cx1 : Int) (rj1 : Bool) (ea1 : Option Addr) (ec1 : Nat) (es1 : List Ent) (si1 st1 : Int) (sa1 : Option Addr) (sc1 : Nat) (sd1 : List UInt8) (kd2 fr2 to2 tm2 ix2 lt2 cm2 hi2 cx2 : Int) (rj2 : Bool) (ea2 : Option Addr) (ec2 : Nat) (es2 : List Ent) (si2 st2 : Int) (sa2 : Option Addr) (sc2 : Nat) (sd2 : List UInt8) (N : Nat) (w : World) (h1 : EntsAt N w ea1 es1) (h2 : EntsAt N w ea2 es2) (g1 : Sl N w (.slice sa1 sd1.length sc1) sd1) (g2 : Sl N w (.slice sa2 sd2.length sc2) sd2) (hN : N ≤ w.heap.size) (hz : es1.length ≤ 1000000) :
    Calls Try.prog 85 #[.agg #[.int .i64 kd1, .int .i64 fr1, .int .i64 to1, .int .i64 tm1, .int .i64 ix1, .int .i64 lt1, .int .i64 cm1, .int .i64 hi1, .int .i64 cx1, .bool rj1, .slice ea1 es1.length ec1, .int .i64 si1, .int .i64 st1, .slice sa1 sd1.length sc1], .agg #[.int .i64 kd2, .int .i64 fr2, .int .i64 to2, .int .i64 tm2, .int .i64 ix2, .int .i64 lt2, .int .i64 cm2, .int .i64 hi2, .int .i64 cx2, .bool rj2, .slice ea2 es2.length ec2, .int .i64 si2, .int .i64 st2, .slice sa2 sd2.length sc2]] w fun e w' => e = .returned (.bool (((kd1 == kd2) && (fr1 == fr2) && (to1 == to2) && (tm1 == tm2)) && (decide (sd1 = sd2) && (si1 == si2) && (st1 == st2)) && decide (es1.map Ent.says = es2.map Ent.says) && (ix1 == ix2) && (lt1 == lt2) && (cm1 == cm2) && (hi1 == hi2) && (cx1 == cx2) && (rj1 == rj2))) ∧ Below w.heap.size w w' := by
  obtain ⟨W0, hW0⟩ : ∃ W0, (w.alloc (.cells #[.int .i64 kd1, .int .i64 fr1, .int .i64 to1, .int .i64 tm1, .int .i64 ix1, .int .i64 lt1, .int .i64 cm1, .int .i64 hi1, .int .i64 cx1, .bool rj1, .slice ea1 es1.length ec1, .int .i64 si1, .int .i64 st1, .slice sa1 sd1.length sc1] 103)).alloc (.cells #[.int .i64 kd2, .int .i64 fr2, .int .i64 to2, .int .i64 tm2, .int .i64 ix2, .int .i64 lt2, .int .i64 cm2, .int .i64 hi2, .int .i64 cx2, .bool rj2, .slice ea2 es2.length ec2, .int .i64 si2, .int .i64 st2, .slice sa2 sd2.length sc2] 103) = W0 := ⟨_, rfl⟩
  have HW0 : Hid ((w.alloc (.cells #[.int .i64 kd1, .int .i64 fr1, .int .i64 to1, .int .i64 tm1, .int .i64 ix1, .int .i64 lt1, .int .i64 cm1, .int .i64 hi1, .int .i64 cx1, .bool rj1, .slice ea1 es1.length ec1, .int .i64 si1, .int .i64 st1, .slice sa1 sd1.length sc1] 103)).alloc (.cells #[.int .i64 kd2, .int .i64 fr2, .int .i64 to2, .int .i64 tm2, .int .i64 ix2, .int .i64 lt2, .int .i64 cm2, .int .i64 hi2, .int .i64 cx2, .bool rj2, .slice ea2 es2.length ec2, .int .i64 si2, .int .i64 st2, .slice sa2 sd2.length sc2] 103) = W0) := hW0
  have HB0 : Hid (Below w.heap.size w W0) := by show Below w.heap.size w W0; rw [← hW0]; exact (((Below.refl _ w).alloc (by simp) _).alloc (by simp) _)
  have HS0 : Hid (W0.heap.size = w.heap.size + 2) := by show W0.heap.size = _; rw [← hW0]; simp
  have HX : Hid (∀ w', Below W0.heap.size W0 w' → w'.heap[w.heap.size]? = some (.cells #[.int .i64 kd1, .int .i64 fr1, .int .i64 to1, .int .i64 tm1, .int .i64 ix1, .int .i64 lt1, .int .i64 cm1, .int .i64 hi1, .int .i64 cx1, .bool rj1, .slice ea1 es1.length ec1, .int .i64 si1, .int .i64 st1, .slice sa1 sd1.length sc1] 103 (0, 0))) := fun w' hB => by
    refine (hB.block _ (by have := HS0.out; omega)).trans ?_
    rw [← hW0]; exact (((Below.refl (w.heap.size + 1) (w.alloc _)).alloc (by simp) _).block _ (by simp)).trans (heap_alloc_new w _)
  have HY : Hid (∀ w', Below W0.heap.size W0 w' → w'.heap[w.heap.size + 1]? = some (.cells #[.int .i64 kd2, .int .i64 fr2, .int .i64 to2, .int .i64 tm2, .int .i64 ix2, .int .i64 lt2, .int .i64 cm2, .int .i64 hi2, .int .i64 cx2, .bool rj2, .slice ea2 es2.length ec2, .int .i64 si2, .int .i64 st2, .slice sa2 sd2.length sc2] 103 (0, 0))) := fun w' hB => by
    refine (hB.block _ (by have := HS0.out; omega)).trans ?_
    rw [← hW0]; simpa using heap_alloc_new (w.alloc (.cells #[.int .i64 kd1, .int .i64 fr1, .int .i64 to1, .int .i64 tm1, .int .i64 ix1, .int .i64 lt1, .int .i64 cm1, .int .i64 hi1, .int .i64 cx1, .bool rj1, .slice ea1 es1.length ec1, .int .i64 si1, .int .i64 st1, .slice sa1 sd1.length sc1] 103)) _
  clear hW0
  have HE1 : Hid (∀ w', Below W0.heap.size W0 w' → EntsAt N w' ea1 es1) := fun w' hB => h1.below ((HB0.out.trans (hB.mono HB0.out.size)).mono hN)
  have HE2 : Hid (∀ w', Below W0.heap.size W0 w' → EntsAt N w' ea2 es2) := fun w' hB => h2.below ((HB0.out.trans (hB.mono HB0.out.size)).mono hN)
  have G1 := g1.below (HB0.out.mono hN)
  have G2 := g2.below (HB0.out.mono hN)
  have HNN : Hid (∀ w', Below W0.heap.size W0 w' → N ≤ w'.heap.size) := fun w' hB => by have := hB.size; have := HS0.out; omega
  clear h1 h2 g1 g2
  go_enter Try.func85, Try.ntmps85
  go_wp2_with fail
  rw [HW0.out]
  refine (sameSnap_any si1 st1 sa1 sc1 sd1 si2 st2 sa2 sc2 sd2 N W0 G1 G2 (HNN.out _ (Below.refl _ _))).mono ?_
  rintro e w1 ⟨rfl, hB1⟩
  obtain ⟨sb, hsb⟩ : ∃ sb, (decide (sd1 = sd2) && (si1 == si2) && (st1 == st2)) = sb := ⟨_, rfl⟩
  rw [hsb]
  have HSB : Hid ((decide (sd1 = sd2) && (si1 == si2) && (st1 == st2)) = sb) := hsb
  clear hsb
  obtain ⟨⟨p0, p1, p2, p3, p4, p5, p6, p7, p8, p9, p10, p11, p12, p13⟩, -⟩ := cells14 (HX.out w1 hB1)
  obtain ⟨⟨q0, q1, q2, q3, q4, q5, q6, q7, q8, q9, q10, q11, q12, q13⟩, -⟩ := cells14 (HY.out w1 hB1)
  clear G1 G2
  go_wp2_with fail
  refine (sameEntries_any ea1 ea2 ec1 ec2 es1 es2 N w1 (HE1.out w1 hB1) (HE2.out w1 hB1) (HNN.out _ hB1) hz).mono ?_
  rintro e w2 ⟨rfl, hB2⟩
  have HB2 : Hid (Below W0.heap.size W0 w2) := hB1.trans (hB2.mono hB1.size)
  obtain ⟨eb, heb⟩ : ∃ eb, decide (es1.map Ent.says = es2.map Ent.says) = eb := ⟨_, rfl⟩
  rw [heb]
  have HEB : Hid (decide (es1.map Ent.says = es2.map Ent.says) = eb) := heb
  clear heb
  have HF : Hid (Below w.heap.size w w2) := HB0.out.trans (HB2.out.mono HB0.out.size)
  clear p0 q0 p1 q1 p2 q2 p3 q3 p4 q4 p5 q5 p6 q6 p7 q7 p8 q8 p9 q9 p10 q10 p11 q11 p12 q12 p13 q13 hB1 hB2
  obtain ⟨⟨p0, p1, p2, p3, p4, p5, p6, p7, p8, p9, p10, p11, p12, p13⟩, -⟩ := cells14 (HX.out w2 HB2.out)
  obtain ⟨⟨q0, q1, q2, q3, q4, q5, q6, q7, q8, q9, q10, q11, q12, q13⟩, -⟩ := cells14 (HY.out w2 HB2.out)
  go_wp2
  all_goals
    go_ret
    refine ⟨?_, HF.out⟩
    rw [HSB.out, HEB.out]
    clear HSB HEB HX HY HE1 HE2 HNN HW0 p0 q0 p1 q1 p2 q2 p3 q3 p4 q4 p5 q5 p6 q6 p7 q7 p8 q8 p9 q9 p10 q10 p11 q11 p12 q12 p13 q13
    simp_all
/-- What may be of a message of kind 3. -/
def ckM3 (fr to tm ix lt cm hi cx : Int) (rj : Bool) (es : List Ent) (si st : Int) (sn : Nat) : Nat :=
  if msgRange fr to tm ix lt cm hi cx = false then 1 else if fr = to then 4 else if blank 0 0 0 hi cx rj 0 si st sn = false then 4 else ckApp tm ix lt es

theorem blankR3 (fr to tm ix lt cm hi cx : Int) (rj : Bool) (ea : Option Addr) (ec : Nat) (es : List Ent) (si st : Int) (sa : Option Addr) (sc : Nat) (sd : List UInt8) : ((((3 : Int) == 3) && (fr == fr) && (to == to) && (tm == tm)) && (decide (sd = []) && (si == 0) && (st == 0)) && decide (es.map Ent.says = es.map Ent.says) && (ix == ix) && (lt == lt) && (cm == cm) && (hi == 0) && (cx == 0) && (rj == false)) = blank 0 0 0 hi cx rj 0 si st sd.length := by
  rw [Bool.eq_iff_iff]
  simp [blank]
  try (constructor <;> rintro h <;> simp_all)

set_option maxRecDepth 100000 in
set_option maxHeartbeats 8000000 in
theorem refChkM3_any (fr to tm ix lt cm hi cx : Int) (rj : Bool) (ea : Option Addr) (ec : Nat) (es : List Ent) (si st : Int) (sa : Option Addr) (sc : Nat) (sd : List UInt8) (N : Nat) (w : World) (hE : EntsAt N w ea es) (hD : Sl N w (.slice sa sd.length sc) sd) (hN : N ≤ w.heap.size) (hz : es.length ≤ 1000000) : Calls Try.prog 77 #[.agg #[.int .i64 3, .int .i64 fr, .int .i64 to, .int .i64 tm, .int .i64 ix, .int .i64 lt, .int .i64 cm, .int .i64 hi, .int .i64 cx, .bool rj, .slice ea es.length ec, .int .i64 si, .int .i64 st, .slice sa sd.length sc]] w fun e w' => e = .returned (.int .i64 (ckM3 fr to tm ix lt cm hi cx rj es si st sd.length : Int)) ∧ Below w.heap.size w w' := by
  have inK : isIn 3 1 7 = true := by decide
  unfold ckM3
  by_cases hR : msgRange fr to tm ix lt cm hi cx = true
  case neg =>
    simp only [Bool.not_eq_true] at hR
    rw [if_pos hR]
    exact refRangeNo_any 3 fr to tm ix lt cm hi cx rj ea es.length ec si st sa sd.length sc w inK hR
  rw [if_neg (by simp [hR])]
  have hR' := hR
  unfold msgRange at hR'
  simp only [Bool.and_eq_true] at hR'
  obtain ⟨⟨⟨⟨⟨⟨⟨g0, g1⟩, g2⟩, g3⟩, g4⟩, g5⟩, g6⟩, g7⟩ := hR'
  obtain ⟨W0, hW0⟩ : ∃ W0, w.alloc (.cells #[.int .i64 3, .int .i64 fr, .int .i64 to, .int .i64 tm, .int .i64 ix, .int .i64 lt, .int .i64 cm, .int .i64 hi, .int .i64 cx, .bool rj, .slice ea es.length ec, .int .i64 si, .int .i64 st, .slice sa sd.length sc] 103) = W0 := ⟨_, rfl⟩
  have HW0 : Hid (w.alloc (.cells #[.int .i64 3, .int .i64 fr, .int .i64 to, .int .i64 tm, .int .i64 ix, .int .i64 lt, .int .i64 cm, .int .i64 hi, .int .i64 cx, .bool rj, .slice ea es.length ec, .int .i64 si, .int .i64 st, .slice sa sd.length sc] 103) = W0) := hW0
  have HB0 : Hid (Below w.heap.size w W0) := by show Below w.heap.size w W0; rw [← hW0]; exact (Below.refl _ w).alloc (by simp) _
  have HX : Hid (∀ w', Below W0.heap.size W0 w' → w'.heap[w.heap.size]? = some (.cells #[.int .i64 3, .int .i64 fr, .int .i64 to, .int .i64 tm, .int .i64 ix, .int .i64 lt, .int .i64 cm, .int .i64 hi, .int .i64 cx, .bool rj, .slice ea es.length ec, .int .i64 si, .int .i64 st, .slice sa sd.length sc] 103 (0, 0))) := fun w' hB => by
    refine (hB.block _ (by rw [← hW0]; simp)).trans ?_
    rw [← hW0]; exact heap_alloc_new w _
  have HS0 : Hid (W0.heap.size = w.heap.size + 1) := by show W0.heap.size = _; rw [← hW0]; simp
  clear hW0
  have HEE : Hid (EntsAt N W0 ea es) := hE.below (HB0.out.mono hN)
  have HSD : Hid (Sl N W0 (.slice sa sd.length sc) sd) := hD.below (HB0.out.mono hN)
  have hNW : N ≤ W0.heap.size := by have := HS0.out; omega
  clear hE hD
  obtain ⟨bl, hbl⟩ : ∃ bl, blank 0 0 0 hi cx rj 0 si st sd.length = bl := ⟨_, rfl⟩
  rw [hbl]
  have HSM : Hid (∀ w1, Below W0.heap.size W0 w1 → Calls Try.prog 85 #[.agg #[.int .i64 3, .int .i64 fr, .int .i64 to, .int .i64 tm, .int .i64 ix, .int .i64 lt, .int .i64 cm, .int .i64 hi, .int .i64 cx, .bool rj, .slice ea es.length ec, .int .i64 si, .int .i64 st, .slice sa sd.length sc], .agg #[.int .i64 3, .int .i64 fr, .int .i64 to, .int .i64 tm, .int .i64 ix, .int .i64 lt, .int .i64 cm, .int .i64 0, .int .i64 0, .bool false, .slice ea es.length ec, .int .i64 0, .int .i64 0, .slice none 0 0]] w1 fun e w' => e = .returned (.bool bl) ∧ Below w1.heap.size w1 w') := fun w1 hB1 => by
    have hS := sameMsg_any 3 fr to tm ix lt cm hi cx rj ea ec es si st sa sc sd 3 fr to tm ix lt cm 0 0 false ea ec es 0 0 none 0 [] N w1 (HEE.out.below (hB1.mono hNW)) (HEE.out.below (hB1.mono hNW)) (HSD.out.below (hB1.mono hNW)) (Sl.nil _ _) (by have := hB1.size; omega) hz
    rw [(blankR3 fr to tm ix lt cm hi cx rj ea ec es si st sa sc sd).trans hbl] at hS
    exact hS
  clear hbl
  obtain ⟨E, HE⟩ : ∃ E : Nat, Hid ((if fr = to then 4 else if bl = false then 4 else ckApp tm ix lt es) = E) := ⟨_, rfl⟩
  rw [HE.out]
  go_enter Try.func77, Try.ntmps77
  go_wp2_with (first
    | (go_at_call 81; refine (refWithin_any _ _ _ _).mono ?_; rintro e w' ⟨rfl, hw⟩; subst w'; simp only [inK, g0, g1, g2])
    | (go_at_call 43; refine (number_any _ _).mono ?_; rintro e w' ⟨rfl, hw⟩; subst w'; simp only [g3, g4, g5, g6, g7]))
  rw [HW0.out]
  obtain ⟨⟨q0, q1, q2, q3, q4, q5, q6, q7, q8, q9, q10, q11, q12, q13⟩, -⟩ := cells14 (HX.out _ (Below.refl _ _))
  have hlw0 : w.heap.size < W0.heap.size := by have := HS0.out; omega
  go_region_held3 (fun w' => w'.cell? ⟨w.heap.size, 0, none⟩ = some (.int .i64 3) ∧ w'.cell? ⟨w.heap.size, 1, none⟩ = some (.int .i64 fr) ∧ w'.cell? ⟨w.heap.size, 2, none⟩ = some (.int .i64 to) ∧ w'.cell? ⟨w.heap.size, 3, none⟩ = some (.int .i64 tm) ∧ w'.cell? ⟨w.heap.size, 4, none⟩ = some (.int .i64 ix) ∧ w'.cell? ⟨w.heap.size, 5, none⟩ = some (.int .i64 lt) ∧ w'.cell? ⟨w.heap.size, 6, none⟩ = some (.int .i64 cm) ∧ w'.cell? ⟨w.heap.size, 7, none⟩ = some (.int .i64 hi) ∧ w'.cell? ⟨w.heap.size, 8, none⟩ = some (.int .i64 cx) ∧ w'.cell? ⟨w.heap.size, 9, none⟩ = some (.bool rj) ∧ w'.cell? ⟨w.heap.size, 10, none⟩ = some (.slice ea es.length ec) ∧ w'.cell? ⟨w.heap.size, 11, none⟩ = some (.int .i64 si) ∧ w'.cell? ⟨w.heap.size, 12, none⟩ = some (.int .i64 st) ∧ w'.cell? ⟨w.heap.size, 13, none⟩ = some (.slice sa sd.length sc)) (go_keep)
    (first
      | (go_at_call 86; refine (used3_any _ _ _ _ _ _ _ _ _ _ _ _ _ _ _ _ _ _).mono ?_; rintro e w1 ⟨rfl, hB1d⟩; have hB1 : Below W0.heap.size W0 w1 := ⟨hB1d.os, hB1d.tape, hB1d.output, hB1d.size, hB1d.block⟩; obtain ⟨⟨q0, q1, q2, q3, q4, q5, q6, q7, q8, q9, q10, q11, q12, q13⟩, -⟩ := cells14 (HX.out _ hB1))
      | (go_at_call 85; refine (HSM.out _ hB1).mono ?_; rintro e w2 ⟨rfl, hB2⟩; have hB2' := hB1.trans (hB2.mono hB1.size); obtain ⟨⟨q0, q1, q2, q3, q4, q5, q6, q7, q8, q9, q10, q11, q12, q13⟩, -⟩ := cells14 (HX.out _ hB2')))
  have hlw2 : w.heap.size < w2.heap.size := by have := hB2'.size; have := HS0.out; omega
  clear HSM
  by_cases hE : fr = to
  case pos =>
    obtain rfl : E = 4 := by rw [← HE.out, if_pos hE]
    clear HE
    subst hE
    go_wp2
    go_returns
    exact ⟨rfl, HB0.out.trans (hB2'.mono HB0.out.size)⟩
  have hE' : (fr == to) = false := by simpa using hE
  cases bl
  case false =>
    obtain rfl : E = 4 := by rw [← HE.out, if_neg hE, if_pos rfl]
    clear HE
    go_wp2
    go_returns
    exact ⟨rfl, HB0.out.trans (hB2'.mono HB0.out.size)⟩
  have hT : ckApp tm ix lt es = E := by have := HE.out; rw [if_neg hE, if_neg (by simp)] at this; exact this
  clear HE
  have HT : Hid (ckApp tm ix lt es = E) := hT
  clear hT
  have hix : 0 ≤ ix ∧ ix ≤ 4611686018427387904 := by
    unfold isIn at g3
    simpa using g3
  go_wp2_with fail
  refine (refApp_any fr to tm ix lt cm hi cx rj ea ec es si st sa sd.length sc w2 N (HEE.out.below (hB2'.mono hNW)) (by have := hB2'.size; omega) hix).mono ?_
  rintro e w3 ⟨rfl, hB3⟩
  go_wp2
  go_returns
  exact ⟨by rw [← HT.out]; rfl, HB0.out.trans ((hB2'.trans (hB3.mono hB2'.size)).mono HB0.out.size)⟩


/-- may. -/
def mayB (ix lt : Int) (es : List Ent) : Bool := ckM3 1 2 4611686018427387904 ix lt 0 0 0 false es 0 0 0 == 0

set_option maxRecDepth 100000 in
set_option maxHeartbeats 4000000 in
theorem may_any (ix lt : Int) (ea : Option Addr) (ec : Nat) (es : List Ent) (N : Nat) (w : World) (hE : EntsAt N w ea es) (hN : N ≤ w.heap.size) (hz : es.length ≤ 1000000) :
    Calls Try.prog 28 #[.int .i64 ix, .int .i64 lt, .slice ea es.length ec] w fun e w' => e = .returned (.bool (mayB ix lt es)) ∧ Below w.heap.size w w' := by
  obtain ⟨W0, hW0⟩ : ∃ W0, w.alloc (.cells #[.int .i64 3, .int .i64 1, .int .i64 2, .int .i64 4611686018427387904, .int .i64 ix, .int .i64 lt, .int .i64 0, .int .i64 0, .int .i64 0, .bool false, .slice ea es.length ec, .int .i64 0, .int .i64 0, .slice none 0 0] 103) = W0 := ⟨_, rfl⟩
  have HB0 : Hid (Below w.heap.size w W0) := by show Below w.heap.size w W0; rw [← hW0]; exact (Below.refl _ w).alloc (Nat.le_refl _) _
  have HW0 : Hid (w.alloc (.cells #[.int .i64 3, .int .i64 1, .int .i64 2, .int .i64 4611686018427387904, .int .i64 ix, .int .i64 lt, .int .i64 0, .int .i64 0, .int .i64 0, .bool false, .slice ea es.length ec, .int .i64 0, .int .i64 0, .slice none 0 0] 103) = W0) := hW0
  have hc := refChkM3_any 1 2 4611686018427387904 ix lt 0 0 0 false ea ec es 0 0 none 0 [] N W0 (hE.below (HB0.out.mono hN)) (Sl.nil _ _) (Nat.le_trans hN HB0.out.size) hz
  unfold mayB
  simp only [List.length_nil] at hc
  have HE : Hid ((ckM3 1 2 4611686018427387904 ix lt 0 0 0 false es 0 0 0 == 0) = ((ckM3 1 2 4611686018427387904 ix lt 0 0 0 false es 0 0 0 : Int) == 0)) := by
    show _ = _
    rw [Bool.eq_iff_iff]; simp
  rw [HE.out]
  generalize ckM3 1 2 4611686018427387904 ix lt 0 0 0 false es 0 0 0 = q at *
  have hX : W0.heap[w.heap.size]? = some (.cells #[.int .i64 3, .int .i64 1, .int .i64 2, .int .i64 4611686018427387904, .int .i64 ix, .int .i64 lt, .int .i64 0, .int .i64 0, .int .i64 0, .bool false, .slice ea es.length ec, .int .i64 0, .int .i64 0, .slice none 0 0] 103 (0, 0)) := by rw [← hW0]; exact heap_alloc_new w _
  clear hE hW0 HE
  go_enter Try.func28, Try.ntmps28
  go_wp2_with fail
  rw [HW0.out]
  refine hc.mono ?_
  rintro e w1 ⟨rfl, hB1⟩
  go_wp2
  go_ret
  exact ⟨rfl, HB0.out.trans (hB1.mono HB0.out.size)⟩
end Go.Proofs.Yteekpfgjpdopmaa
