/-
  SamM.
-/
import Derived.Test.YtfnnbfgfmbiababJ18
/-
  Whether two messages are the same: the document's.
-/
namespace Go.Proofs.Ytfnnbfgfmbiabab
open Go.RowKit Go.Shelf

set_option maxRecDepth 100000 in
set_option maxHeartbeats 8000000 in
theorem sameMsg_any (kd1 fr1 to1 tm1 ix1 lt1 cm1 hi1 cx1 : Int) (rj1 : Bool) (ea1 : Option Addr) (ec1 : Nat) (es1 : List Ent) (si1 st1 : Int) (sa1 : Option Addr) (sc1 : Nat) (sd1 : List UInt8) (kd2 fr2 to2 tm2 ix2 lt2 cm2 hi2 cx2 : Int) (rj2 : Bool) (ea2 : Option Addr) (ec2 : Nat) (es2 : List Ent) (si2 st2 : Int) (sa2 : Option Addr) (sc2 : Nat) (sd2 : List UInt8) (N : Nat) (w : World) (h1 : EntsAt N w ea1 es1) (h2 : EntsAt N w ea2 es2) (g1 : Sl N w (.slice sa1 sd1.length sc1) sd1) (g2 : Sl N w (.slice sa2 sd2.length sc2) sd2) (hN : N ≤ w.heap.size) (hz : es1.length ≤ 1000000) :
    Calls Try.prog 18 #[.agg #[.int .i64 kd1, .int .i64 fr1, .int .i64 to1, .int .i64 tm1, .int .i64 ix1, .int .i64 lt1, .int .i64 cm1, .int .i64 hi1, .int .i64 cx1, .bool rj1, .slice ea1 es1.length ec1, .int .i64 si1, .int .i64 st1, .slice sa1 sd1.length sc1], .agg #[.int .i64 kd2, .int .i64 fr2, .int .i64 to2, .int .i64 tm2, .int .i64 ix2, .int .i64 lt2, .int .i64 cm2, .int .i64 hi2, .int .i64 cx2, .bool rj2, .slice ea2 es2.length ec2, .int .i64 si2, .int .i64 st2, .slice sa2 sd2.length sc2]] w fun e w' => e = .returned (.bool (((kd1 == kd2) && (fr1 == fr2) && (to1 == to2) && (tm1 == tm2)) && (decide (sd1 = sd2) && (si1 == si2) && (st1 == st2)) && decide (saysOf es1 = saysOf es2) && (ix1 == ix2) && (lt1 == lt2) && (cm1 == cm2) && (hi1 == hi2) && (cx1 == cx2) && (rj1 == rj2))) ∧ Below w.heap.size w w' := by
  obtain ⟨W0, hW0⟩ : ∃ W0, (w.alloc (.cells #[.int .i64 kd1, .int .i64 fr1, .int .i64 to1, .int .i64 tm1, .int .i64 ix1, .int .i64 lt1, .int .i64 cm1, .int .i64 hi1, .int .i64 cx1, .bool rj1, .slice ea1 es1.length ec1, .int .i64 si1, .int .i64 st1, .slice sa1 sd1.length sc1] 49)).alloc (.cells #[.int .i64 kd2, .int .i64 fr2, .int .i64 to2, .int .i64 tm2, .int .i64 ix2, .int .i64 lt2, .int .i64 cm2, .int .i64 hi2, .int .i64 cx2, .bool rj2, .slice ea2 es2.length ec2, .int .i64 si2, .int .i64 st2, .slice sa2 sd2.length sc2] 49) = W0 := ⟨_, rfl⟩
  have HW0 : Hid ((w.alloc (.cells #[.int .i64 kd1, .int .i64 fr1, .int .i64 to1, .int .i64 tm1, .int .i64 ix1, .int .i64 lt1, .int .i64 cm1, .int .i64 hi1, .int .i64 cx1, .bool rj1, .slice ea1 es1.length ec1, .int .i64 si1, .int .i64 st1, .slice sa1 sd1.length sc1] 49)).alloc (.cells #[.int .i64 kd2, .int .i64 fr2, .int .i64 to2, .int .i64 tm2, .int .i64 ix2, .int .i64 lt2, .int .i64 cm2, .int .i64 hi2, .int .i64 cx2, .bool rj2, .slice ea2 es2.length ec2, .int .i64 si2, .int .i64 st2, .slice sa2 sd2.length sc2] 49) = W0) := hW0
  have HB0 : Hid (Below w.heap.size w W0) := by show Below w.heap.size w W0; rw [← hW0]; exact (((Below.refl _ w).alloc (by simp) _).alloc (by simp) _)
  have HS0 : Hid (W0.heap.size = w.heap.size + 2) := by show W0.heap.size = _; rw [← hW0]; simp
  have HX : Hid (∀ w', Below W0.heap.size W0 w' → w'.heap[w.heap.size]? = some (.cells #[.int .i64 kd1, .int .i64 fr1, .int .i64 to1, .int .i64 tm1, .int .i64 ix1, .int .i64 lt1, .int .i64 cm1, .int .i64 hi1, .int .i64 cx1, .bool rj1, .slice ea1 es1.length ec1, .int .i64 si1, .int .i64 st1, .slice sa1 sd1.length sc1] 49 (0, 0))) := fun w' hB => by
    refine (hB.block _ (by have := HS0.out; omega)).trans ?_
    rw [← hW0]; exact (((Below.refl (w.heap.size + 1) (w.alloc _)).alloc (by simp) _).block _ (by simp)).trans (World.alloc_heap_new w _)
  have HY : Hid (∀ w', Below W0.heap.size W0 w' → w'.heap[w.heap.size + 1]? = some (.cells #[.int .i64 kd2, .int .i64 fr2, .int .i64 to2, .int .i64 tm2, .int .i64 ix2, .int .i64 lt2, .int .i64 cm2, .int .i64 hi2, .int .i64 cx2, .bool rj2, .slice ea2 es2.length ec2, .int .i64 si2, .int .i64 st2, .slice sa2 sd2.length sc2] 49 (0, 0))) := fun w' hB => by
    refine (hB.block _ (by have := HS0.out; omega)).trans ?_
    rw [← hW0]; simpa using World.alloc_heap_new (w.alloc (.cells #[.int .i64 kd1, .int .i64 fr1, .int .i64 to1, .int .i64 tm1, .int .i64 ix1, .int .i64 lt1, .int .i64 cm1, .int .i64 hi1, .int .i64 cx1, .bool rj1, .slice ea1 es1.length ec1, .int .i64 si1, .int .i64 st1, .slice sa1 sd1.length sc1] 49)) _
  clear hW0
  have HE1 : Hid (∀ w', Below W0.heap.size W0 w' → EntsAt N w' ea1 es1) := fun w' hB => h1.below ((HB0.out.trans (hB.mono HB0.out.size)).mono hN)
  have HE2 : Hid (∀ w', Below W0.heap.size W0 w' → EntsAt N w' ea2 es2) := fun w' hB => h2.below ((HB0.out.trans (hB.mono HB0.out.size)).mono hN)
  have G1 := g1.below (HB0.out.mono hN)
  have G2 := g2.below (HB0.out.mono hN)
  have HNN : Hid (∀ w', Below W0.heap.size W0 w' → N ≤ w'.heap.size) := fun w' hB => by have := hB.size; have := HS0.out; omega
  clear h1 h2 g1 g2
  go_enter Try.func18, Try.ntmps18
  go_wp2_with fail
  rw [HW0.out]
  refine (sameSnap_any si1 st1 sa1 sc1 sd1 si2 st2 sa2 sc2 sd2 N W0 G1 G2 (HNN.out _ (Below.refl _ _))).mono ?_
  rintro e w1 ⟨rfl, hB1⟩
  obtain ⟨sb, hsb⟩ : ∃ sb, (decide (sd1 = sd2) && (si1 == si2) && (st1 == st2)) = sb := ⟨_, rfl⟩
  rw [hsb]
  have HSB : Hid ((decide (sd1 = sd2) && (si1 == si2) && (st1 == st2)) = sb) := hsb
  clear hsb
  obtain ⟨⟨p0, p1, p2, p3, p4, p5, p6, p7, p8, p9, p10, p11, p12, p13⟩, -⟩ := cells14 (HX.out w1 hB1)
  obtain ⟨⟨q0, q1, q2, q3, q4, q5, q6, q7, q8, q9, q10, q11, q12, q13⟩, -⟩ := cells14 (HY.out w1 hB1)
  clear G1 G2
  go_wp2_with fail
  refine (sameEntries_any ea1 ea2 ec1 ec2 es1 es2 N w1 (HE1.out w1 hB1) (HE2.out w1 hB1) (HNN.out _ hB1) hz).mono ?_
  rintro e w2 ⟨rfl, hB2⟩
  have HB2 : Hid (Below W0.heap.size W0 w2) := hB1.trans (hB2.mono hB1.size)
  obtain ⟨eb, heb⟩ : ∃ eb, decide (saysOf es1 = saysOf es2) = eb := ⟨_, rfl⟩
  rw [heb]
  have HEB : Hid (decide (saysOf es1 = saysOf es2) = eb) := heb
  clear heb
  have HF : Hid (Below w.heap.size w w2) := HB0.out.trans (HB2.out.mono HB0.out.size)
  clear p0 q0 p1 q1 p2 q2 p3 q3 p4 q4 p5 q5 p6 q6 p7 q7 p8 q8 p9 q9 p10 q10 p11 q11 p12 q12 p13 q13 hB1 hB2
  obtain ⟨⟨p0, p1, p2, p3, p4, p5, p6, p7, p8, p9, p10, p11, p12, p13⟩, -⟩ := cells14 (HX.out w2 HB2.out)
  obtain ⟨⟨q0, q1, q2, q3, q4, q5, q6, q7, q8, q9, q10, q11, q12, q13⟩, -⟩ := cells14 (HY.out w2 HB2.out)
  go_wp2
  all_goals
    go_ret
    refine ⟨?_, HF.out⟩
    rw [HSB.out, HEB.out]
    clear HSB HEB HX HY HE1 HE2 HNN HW0 p0 q0 p1 q1 p2 q2 p3 q3 p4 q4 p5 q5 p6 q6 p7 q7 p8 q8 p9 q9 p10 q10 p11 q11 p12 q12 p13 q13
    simp_all
end Go.Proofs.Ytfnnbfgfmbiabab

