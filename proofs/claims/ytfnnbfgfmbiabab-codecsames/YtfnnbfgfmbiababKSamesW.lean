/-
  CodecSames: the walk of the law.
-/
import Derived.Test.YtfnnbfgfmbiababKSam3
import Derived.Test.YtfnnbfgfmbiababJ23
import Derived.Test.YtfnnbfgfmbiababJ05
import Derived.Test.YtfnnbfgfmbiababJ11
import Derived.Deep.CutRange
namespace Go.Proofs.Ytfnnbfgfmbiabab
open Go.RowKit Go.Shelf

set_option maxRecDepth 100000 in
set_option maxHeartbeats 8000000 in
theorem codecSames_walk (a1 a2 a3 b1 b2 b3 o1 p1 s1 o2 p2 s2 : Int) (k1 l1 d1 k2 l2 d2 : List UInt8) (m n : Msg) (w : World) (hx : m.At w.heap.size w) (hsx : m.sd.length ≤ 9223372036854775807) (hex : m.es.length ≤ 9223372036854775807) (hy : n.At w.heap.size w) (hsy : n.sd.length ≤ 9223372036854775807) (hey : n.es.length ≤ 9223372036854775807) :
    Calls Try.prog 4 #[.agg #[.int .i64 a1, .int .i64 a2, .int .i64 a3], .agg #[.int .i64 b1, .int .i64 b2, .int .i64 b3], .agg #[.int .i64 o1, .int .i64 p1, .int .i64 s1, .string ⟨k1.toArray⟩, .string ⟨l1.toArray⟩, .string ⟨d1.toArray⟩], .agg #[.int .i64 o2, .int .i64 p2, .int .i64 s2, .string ⟨k2.toArray⟩, .string ⟨l2.toArray⟩, .string ⟨d2.toArray⟩], .agg #[.int .i64 m.kd, .int .i64 m.fr, .int .i64 m.to, .int .i64 m.tm, .int .i64 m.ix, .int .i64 m.lt, .int .i64 m.cm, .int .i64 m.hi, .int .i64 m.cx, .bool m.rj, .slice m.ea m.es.length m.ec, .int .i64 m.si, .int .i64 m.st, .slice m.sa m.sd.length m.sc], .agg #[.int .i64 n.kd, .int .i64 n.fr, .int .i64 n.to, .int .i64 n.tm, .int .i64 n.ix, .int .i64 n.lt, .int .i64 n.cm, .int .i64 n.hi, .int .i64 n.cx, .bool n.rj, .slice n.ea n.es.length n.ec, .int .i64 n.si, .int .i64 n.st, .slice n.sa n.sd.length n.sc]] w fun e w' => e = .returned (.bool true) ∧ Below w.heap.size w w' := by
  obtain ⟨V0, hV0⟩ : ∃ V0, w.alloc (.cells #[.int .i64 a1, .int .i64 a2, .int .i64 a3] 43) = V0 := ⟨_, rfl⟩
  have HHV0 : Hid (w.alloc (.cells #[.int .i64 a1, .int .i64 a2, .int .i64 a3] 43) = V0) := hV0
  have hSV0 : V0.heap.size = w.heap.size + 1 := by rw [← hV0]; simp
  have hBV0 : Below w.heap.size w V0 := by rw [← hV0]; exact (Below.refl _ _).alloc (Nat.le_refl _) _
  have hXV0 : V0.heap[w.heap.size]? = some (.cells #[.int .i64 a1, .int .i64 a2, .int .i64 a3] 43 (0, 0)) := by rw [← hV0]; exact World.alloc_heap_new w _
  obtain ⟨V1, hV1⟩ : ∃ V1, V0.alloc (.cells #[.int .i64 b1, .int .i64 b2, .int .i64 b3] 43) = V1 := ⟨_, rfl⟩
  have HHV1 : Hid (V0.alloc (.cells #[.int .i64 b1, .int .i64 b2, .int .i64 b3] 43) = V1) := hV1
  have hSV1 : V1.heap.size = w.heap.size + 2 := by rw [← hV1]; simp [hSV0]
  have hBV1 : Below V0.heap.size V0 V1 := by rw [← hV1]; exact (Below.refl _ _).alloc (Nat.le_refl _) _
  have hXV1 : V1.heap[w.heap.size + 1]? = some (.cells #[.int .i64 b1, .int .i64 b2, .int .i64 b3] 43 (0, 0)) := by rw [← hV1]; have := World.alloc_heap_new V0 (.cells #[.int .i64 b1, .int .i64 b2, .int .i64 b3] 43); rw [hSV0] at this; exact this
  obtain ⟨V2, hV2⟩ : ∃ V2, V1.alloc (.cells #[.int .i64 o1, .int .i64 p1, .int .i64 s1, .string ⟨k1.toArray⟩, .string ⟨l1.toArray⟩, .string ⟨d1.toArray⟩] 45) = V2 := ⟨_, rfl⟩
  have HHV2 : Hid (V1.alloc (.cells #[.int .i64 o1, .int .i64 p1, .int .i64 s1, .string ⟨k1.toArray⟩, .string ⟨l1.toArray⟩, .string ⟨d1.toArray⟩] 45) = V2) := hV2
  have hSV2 : V2.heap.size = w.heap.size + 3 := by rw [← hV2]; simp [hSV1]
  have hBV2 : Below V1.heap.size V1 V2 := by rw [← hV2]; exact (Below.refl _ _).alloc (Nat.le_refl _) _
  have hXV2 : V2.heap[w.heap.size + 2]? = some (.cells #[.int .i64 o1, .int .i64 p1, .int .i64 s1, .string ⟨k1.toArray⟩, .string ⟨l1.toArray⟩, .string ⟨d1.toArray⟩] 45 (0, 0)) := by rw [← hV2]; have := World.alloc_heap_new V1 (.cells #[.int .i64 o1, .int .i64 p1, .int .i64 s1, .string ⟨k1.toArray⟩, .string ⟨l1.toArray⟩, .string ⟨d1.toArray⟩] 45); rw [hSV1] at this; exact this
  obtain ⟨V3, hV3⟩ : ∃ V3, V2.alloc (.cells #[.int .i64 o2, .int .i64 p2, .int .i64 s2, .string ⟨k2.toArray⟩, .string ⟨l2.toArray⟩, .string ⟨d2.toArray⟩] 45) = V3 := ⟨_, rfl⟩
  have HHV3 : Hid (V2.alloc (.cells #[.int .i64 o2, .int .i64 p2, .int .i64 s2, .string ⟨k2.toArray⟩, .string ⟨l2.toArray⟩, .string ⟨d2.toArray⟩] 45) = V3) := hV3
  have hSV3 : V3.heap.size = w.heap.size + 4 := by rw [← hV3]; simp [hSV2]
  have hBV3 : Below V2.heap.size V2 V3 := by rw [← hV3]; exact (Below.refl _ _).alloc (Nat.le_refl _) _
  have hXV3 : V3.heap[w.heap.size + 3]? = some (.cells #[.int .i64 o2, .int .i64 p2, .int .i64 s2, .string ⟨k2.toArray⟩, .string ⟨l2.toArray⟩, .string ⟨d2.toArray⟩] 45 (0, 0)) := by rw [← hV3]; have := World.alloc_heap_new V2 (.cells #[.int .i64 o2, .int .i64 p2, .int .i64 s2, .string ⟨k2.toArray⟩, .string ⟨l2.toArray⟩, .string ⟨d2.toArray⟩] 45); rw [hSV2] at this; exact this
  obtain ⟨V4, hV4⟩ : ∃ V4, V3.alloc (.cells #[.int .i64 m.kd, .int .i64 m.fr, .int .i64 m.to, .int .i64 m.tm, .int .i64 m.ix, .int .i64 m.lt, .int .i64 m.cm, .int .i64 m.hi, .int .i64 m.cx, .bool m.rj, .slice m.ea m.es.length m.ec, .int .i64 m.si, .int .i64 m.st, .slice m.sa m.sd.length m.sc] 49) = V4 := ⟨_, rfl⟩
  have HHV4 : Hid (V3.alloc (.cells #[.int .i64 m.kd, .int .i64 m.fr, .int .i64 m.to, .int .i64 m.tm, .int .i64 m.ix, .int .i64 m.lt, .int .i64 m.cm, .int .i64 m.hi, .int .i64 m.cx, .bool m.rj, .slice m.ea m.es.length m.ec, .int .i64 m.si, .int .i64 m.st, .slice m.sa m.sd.length m.sc] 49) = V4) := hV4
  have hSV4 : V4.heap.size = w.heap.size + 5 := by rw [← hV4]; simp [hSV3]
  have hBV4 : Below V3.heap.size V3 V4 := by rw [← hV4]; exact (Below.refl _ _).alloc (Nat.le_refl _) _
  have hXV4 : V4.heap[w.heap.size + 4]? = some (.cells #[.int .i64 m.kd, .int .i64 m.fr, .int .i64 m.to, .int .i64 m.tm, .int .i64 m.ix, .int .i64 m.lt, .int .i64 m.cm, .int .i64 m.hi, .int .i64 m.cx, .bool m.rj, .slice m.ea m.es.length m.ec, .int .i64 m.si, .int .i64 m.st, .slice m.sa m.sd.length m.sc] 49 (0, 0)) := by rw [← hV4]; have := World.alloc_heap_new V3 (.cells #[.int .i64 m.kd, .int .i64 m.fr, .int .i64 m.to, .int .i64 m.tm, .int .i64 m.ix, .int .i64 m.lt, .int .i64 m.cm, .int .i64 m.hi, .int .i64 m.cx, .bool m.rj, .slice m.ea m.es.length m.ec, .int .i64 m.si, .int .i64 m.st, .slice m.sa m.sd.length m.sc] 49); rw [hSV3] at this; exact this
  obtain ⟨V5, hV5⟩ : ∃ V5, V4.alloc (.cells #[.int .i64 n.kd, .int .i64 n.fr, .int .i64 n.to, .int .i64 n.tm, .int .i64 n.ix, .int .i64 n.lt, .int .i64 n.cm, .int .i64 n.hi, .int .i64 n.cx, .bool n.rj, .slice n.ea n.es.length n.ec, .int .i64 n.si, .int .i64 n.st, .slice n.sa n.sd.length n.sc] 49) = V5 := ⟨_, rfl⟩
  have HHV5 : Hid (V4.alloc (.cells #[.int .i64 n.kd, .int .i64 n.fr, .int .i64 n.to, .int .i64 n.tm, .int .i64 n.ix, .int .i64 n.lt, .int .i64 n.cm, .int .i64 n.hi, .int .i64 n.cx, .bool n.rj, .slice n.ea n.es.length n.ec, .int .i64 n.si, .int .i64 n.st, .slice n.sa n.sd.length n.sc] 49) = V5) := hV5
  have hSV5 : V5.heap.size = w.heap.size + 6 := by rw [← hV5]; simp [hSV4]
  have hBV5 : Below V4.heap.size V4 V5 := by rw [← hV5]; exact (Below.refl _ _).alloc (Nat.le_refl _) _
  have hXV5 : V5.heap[w.heap.size + 5]? = some (.cells #[.int .i64 n.kd, .int .i64 n.fr, .int .i64 n.to, .int .i64 n.tm, .int .i64 n.ix, .int .i64 n.lt, .int .i64 n.cm, .int .i64 n.hi, .int .i64 n.cx, .bool n.rj, .slice n.ea n.es.length n.ec, .int .i64 n.si, .int .i64 n.st, .slice n.sa n.sd.length n.sc] 49 (0, 0)) := by rw [← hV5]; have := World.alloc_heap_new V4 (.cells #[.int .i64 n.kd, .int .i64 n.fr, .int .i64 n.to, .int .i64 n.tm, .int .i64 n.ix, .int .i64 n.lt, .int .i64 n.cm, .int .i64 n.hi, .int .i64 n.cx, .bool n.rj, .slice n.ea n.es.length n.ec, .int .i64 n.si, .int .i64 n.st, .slice n.sa n.sd.length n.sc] 49); rw [hSV4] at this; exact this
  clear hV0 hV1 hV2 hV3 hV4 hV5
  have HBW : Hid (Below w.heap.size w V5) := (((((hBV0.trans (hBV1.mono (by omega))).trans (hBV2.mono (by omega))).trans (hBV3.mono (by omega))).trans (hBV4.mono (by omega))).trans (hBV5.mono (by omega)))
  have HXa : Hid (∀ w', Below V5.heap.size V5 w' → w'.heap[w.heap.size]? = some (.cells #[.int .i64 a1, .int .i64 a2, .int .i64 a3] 43 (0, 0))) := fun w' hB => (hB.block _ (by omega)).trans ((((((((Below.refl V0.heap.size V0).trans (hBV1.mono (by omega))).trans (hBV2.mono (by omega))).trans (hBV3.mono (by omega))).trans (hBV4.mono (by omega))).trans (hBV5.mono (by omega))).block _ (by omega)).trans hXV0)
  have HXb : Hid (∀ w', Below V5.heap.size V5 w' → w'.heap[w.heap.size + 1]? = some (.cells #[.int .i64 b1, .int .i64 b2, .int .i64 b3] 43 (0, 0))) := fun w' hB => (hB.block _ (by omega)).trans (((((((Below.refl V1.heap.size V1).trans (hBV2.mono (by omega))).trans (hBV3.mono (by omega))).trans (hBV4.mono (by omega))).trans (hBV5.mono (by omega))).block _ (by omega)).trans hXV1)
  have HXc : Hid (∀ w', Below V5.heap.size V5 w' → w'.heap[w.heap.size + 2]? = some (.cells #[.int .i64 o1, .int .i64 p1, .int .i64 s1, .string ⟨k1.toArray⟩, .string ⟨l1.toArray⟩, .string ⟨d1.toArray⟩] 45 (0, 0))) := fun w' hB => (hB.block _ (by omega)).trans ((((((Below.refl V2.heap.size V2).trans (hBV3.mono (by omega))).trans (hBV4.mono (by omega))).trans (hBV5.mono (by omega))).block _ (by omega)).trans hXV2)
  have HXd : Hid (∀ w', Below V5.heap.size V5 w' → w'.heap[w.heap.size + 3]? = some (.cells #[.int .i64 o2, .int .i64 p2, .int .i64 s2, .string ⟨k2.toArray⟩, .string ⟨l2.toArray⟩, .string ⟨d2.toArray⟩] 45 (0, 0))) := fun w' hB => (hB.block _ (by omega)).trans (((((Below.refl V3.heap.size V3).trans (hBV4.mono (by omega))).trans (hBV5.mono (by omega))).block _ (by omega)).trans hXV3)
  have HXm : Hid (∀ w', Below V5.heap.size V5 w' → w'.heap[w.heap.size + 4]? = some (.cells #[.int .i64 m.kd, .int .i64 m.fr, .int .i64 m.to, .int .i64 m.tm, .int .i64 m.ix, .int .i64 m.lt, .int .i64 m.cm, .int .i64 m.hi, .int .i64 m.cx, .bool m.rj, .slice m.ea m.es.length m.ec, .int .i64 m.si, .int .i64 m.st, .slice m.sa m.sd.length m.sc] 49 (0, 0))) := fun w' hB => (hB.block _ (by omega)).trans ((((Below.refl V4.heap.size V4).trans (hBV5.mono (by omega))).block _ (by omega)).trans hXV4)
  have HXn : Hid (∀ w', Below V5.heap.size V5 w' → w'.heap[w.heap.size + 5]? = some (.cells #[.int .i64 n.kd, .int .i64 n.fr, .int .i64 n.to, .int .i64 n.tm, .int .i64 n.ix, .int .i64 n.lt, .int .i64 n.cm, .int .i64 n.hi, .int .i64 n.cx, .bool n.rj, .slice n.ea n.es.length n.ec, .int .i64 n.si, .int .i64 n.st, .slice n.sa n.sd.length n.sc] 49 (0, 0))) := fun w' hB => (hB.block _ (by omega)).trans (((Below.refl V5.heap.size V5).block _ (by omega)).trans hXV5)
  have HLT : Hid (∀ w', Below V5.heap.size V5 w' → w.heap.size + 6 ≤ w'.heap.size) := fun w' hB => by have := hB.size; omega
  have hzW : w.heap.size ≤ V5.heap.size := HBW.out.size
  have HAT : Hid (∀ w', Below V5.heap.size V5 w' → m.At w.heap.size w') := fun w' hB => (hx.below HBW.out).below (hB.mono hzW)
  have HATn : Hid (∀ w', Below V5.heap.size V5 w' → n.At w.heap.size w') := fun w' hB => (hy.below HBW.out).below (hB.mono hzW)
  have HFN : Hid (∀ w', Below V5.heap.size V5 w' → Below w.heap.size w w') := fun w' hB => HBW.out.trans (hB.mono hzW)
  clear hx hy hSV0 hBV0 hXV0 hSV1 hBV1 hXV1 hSV2 hBV2 hXV2 hSV3 hBV3 hXV3 hSV4 hBV4 hXV4 hSV5 hBV5 hXV5
  have hsk1 : (⟨k1.toArray⟩ : ByteArray).size = k1.length := by simp [ByteArray.size]
  have hsl1 : (⟨l1.toArray⟩ : ByteArray).size = l1.length := by simp [ByteArray.size]
  have hsd1 : (⟨d1.toArray⟩ : ByteArray).size = d1.length := by simp [ByteArray.size]
  have hsk2 : (⟨k2.toArray⟩ : ByteArray).size = k2.length := by simp [ByteArray.size]
  have hsl2 : (⟨l2.toArray⟩ : ByteArray).size = l2.length := by simp [ByteArray.size]
  have hsd2 : (⟨d2.toArray⟩ : ByteArray).size = d2.length := by simp [ByteArray.size]
  go_enter Try.func4, Try.ntmps4
  go_wp2_with fail
  rw [HHV0.out, HHV1.out, HHV2.out, HHV3.out, HHV4.out, HHV5.out]
  refine (first_any _).mono ?_
  rintro e w1 ⟨rfl, hB1⟩
  have HB1 : Hid (Below V5.heap.size V5 w1) := hB1
  clear hB1
  obtain ⟨⟨qa0, qa1, qa2⟩, -⟩ := cells3 (HXa.out w1 HB1.out)
  obtain ⟨⟨qb0, qb1, qb2⟩, -⟩ := cells3 (HXb.out w1 HB1.out)
  obtain ⟨⟨qc0, qc1, qc2, qc3, qc4, qc5⟩, -⟩ := cells6 (HXc.out w1 HB1.out)
  obtain ⟨⟨qd0, qd1, qd2, qd3, qd4, qd5⟩, -⟩ := cells6 (HXd.out w1 HB1.out)
  obtain ⟨⟨qm0, qm1, qm2, qm3, qm4, qm5, qm6, qm7, qm8, qm9, qm10, qm11, qm12, qm13⟩, -⟩ := cells14 (HXm.out w1 HB1.out)
  obtain ⟨⟨qn0, qn1, qn2, qn3, qn4, qn5, qn6, qn7, qn8, qn9, qn10, qn11, qn12, qn13⟩, -⟩ := cells14 (HXn.out w1 HB1.out)
  have hl1 := HLT.out w1 HB1.out
  have hl1a : w.heap.size < w1.heap.size := by omega
  have hl1b : w.heap.size + 1 < w1.heap.size := by omega
  have hl1c : w.heap.size + 2 < w1.heap.size := by omega
  have hl1d : w.heap.size + 3 < w1.heap.size := by omega
  have hl1e : w.heap.size + 4 < w1.heap.size := by omega
  have hl1f : w.heap.size + 5 < w1.heap.size := by omega
  go_wp2_with fail
  refine (slightMsg_any m w.heap.size w1 (HAT.out w1 HB1.out) (by omega) hsx hex).mono ?_
  rintro e w2 ⟨⟨sb, rfl, hsb⟩, hB2⟩
  have HB2 : Hid (Below V5.heap.size V5 w2) := HB1.out.trans (hB2.mono HB1.out.size)
  clear hB2
  cases sb with
  | false =>
    go_wp2
    go_ret
    exact ⟨rfl, HFN.out _ HB2.out⟩
  | true =>
  obtain ⟨hsd, hes⟩ := hsb rfl
  obtain ⟨⟨qa0, qa1, qa2⟩, -⟩ := cells3 (HXa.out w2 HB2.out)
  obtain ⟨⟨qb0, qb1, qb2⟩, -⟩ := cells3 (HXb.out w2 HB2.out)
  obtain ⟨⟨qc0, qc1, qc2, qc3, qc4, qc5⟩, -⟩ := cells6 (HXc.out w2 HB2.out)
  obtain ⟨⟨qd0, qd1, qd2, qd3, qd4, qd5⟩, -⟩ := cells6 (HXd.out w2 HB2.out)
  obtain ⟨⟨qm0, qm1, qm2, qm3, qm4, qm5, qm6, qm7, qm8, qm9, qm10, qm11, qm12, qm13⟩, -⟩ := cells14 (HXm.out w2 HB2.out)
  obtain ⟨⟨qn0, qn1, qn2, qn3, qn4, qn5, qn6, qn7, qn8, qn9, qn10, qn11, qn12, qn13⟩, -⟩ := cells14 (HXn.out w2 HB2.out)
  have hl2 := HLT.out w2 HB2.out
  have hl2a : w.heap.size < w2.heap.size := by omega
  have hl2b : w.heap.size + 1 < w2.heap.size := by omega
  have hl2c : w.heap.size + 2 < w2.heap.size := by omega
  have hl2d : w.heap.size + 3 < w2.heap.size := by omega
  have hl2e : w.heap.size + 4 < w2.heap.size := by omega
  have hl2f : w.heap.size + 5 < w2.heap.size := by omega
  go_wp2_with fail
  refine (slightMsg_any n w.heap.size w2 (HATn.out w2 HB2.out) (by omega) hsy hey).mono ?_
  rintro e w3 ⟨⟨sb2, rfl, hsb2⟩, hB3⟩
  have HB3 : Hid (Below V5.heap.size V5 w3) := HB2.out.trans (hB3.mono HB2.out.size)
  clear hB3
  cases sb2 with
  | false =>
    go_wp2
    go_ret
    exact ⟨rfl, HFN.out _ HB3.out⟩
  | true =>
  obtain ⟨hsd2, hes2⟩ := hsb2 rfl
  obtain ⟨⟨qa0, qa1, qa2⟩, -⟩ := cells3 (HXa.out w3 HB3.out)
  obtain ⟨⟨qb0, qb1, qb2⟩, -⟩ := cells3 (HXb.out w3 HB3.out)
  obtain ⟨⟨qc0, qc1, qc2, qc3, qc4, qc5⟩, -⟩ := cells6 (HXc.out w3 HB3.out)
  obtain ⟨⟨qd0, qd1, qd2, qd3, qd4, qd5⟩, -⟩ := cells6 (HXd.out w3 HB3.out)
  obtain ⟨⟨qm0, qm1, qm2, qm3, qm4, qm5, qm6, qm7, qm8, qm9, qm10, qm11, qm12, qm13⟩, -⟩ := cells14 (HXm.out w3 HB3.out)
  obtain ⟨⟨qn0, qn1, qn2, qn3, qn4, qn5, qn6, qn7, qn8, qn9, qn10, qn11, qn12, qn13⟩, -⟩ := cells14 (HXn.out w3 HB3.out)
  have hl3 := HLT.out w3 HB3.out
  have hl3a : w.heap.size < w3.heap.size := by omega
  have hl3b : w.heap.size + 1 < w3.heap.size := by omega
  have hl3c : w.heap.size + 2 < w3.heap.size := by omega
  have hl3d : w.heap.size + 3 < w3.heap.size := by omega
  have hl3e : w.heap.size + 4 < w3.heap.size := by omega
  have hl3f : w.heap.size + 5 < w3.heap.size := by omega
  by_cases hc0 : k1.length ≤ 20000
  case neg =>
    have hd0 : decide ((k1.length : Int) ≤ 20000) = false := by simp; omega
    go_wp2
    go_ret
    exact ⟨rfl, HFN.out _ HB3.out⟩
  have hd0 : decide ((k1.length : Int) ≤ 20000) = true := by simp; omega
  by_cases hc1 : k2.length ≤ 20000
  case neg =>
    have hd1 : decide ((k2.length : Int) ≤ 20000) = false := by simp; omega
    go_wp2
    go_ret
    exact ⟨rfl, HFN.out _ HB3.out⟩
  have hd1 : decide ((k2.length : Int) ≤ 20000) = true := by simp; omega
  by_cases hc2 : l1.length ≤ 20000
  case neg =>
    have hd2 : decide ((l1.length : Int) ≤ 20000) = false := by simp; omega
    go_wp2
    go_ret
    exact ⟨rfl, HFN.out _ HB3.out⟩
  have hd2 : decide ((l1.length : Int) ≤ 20000) = true := by simp; omega
  by_cases hc3 : l2.length ≤ 20000
  case neg =>
    have hd3 : decide ((l2.length : Int) ≤ 20000) = false := by simp; omega
    go_wp2
    go_ret
    exact ⟨rfl, HFN.out _ HB3.out⟩
  have hd3 : decide ((l2.length : Int) ≤ 20000) = true := by simp; omega
  by_cases hc4 : d1.length ≤ 20000
  case neg =>
    have hd4 : decide ((d1.length : Int) ≤ 20000) = false := by simp; omega
    go_wp2
    go_ret
    exact ⟨rfl, HFN.out _ HB3.out⟩
  have hd4 : decide ((d1.length : Int) ≤ 20000) = true := by simp; omega
  by_cases hc5 : d2.length ≤ 20000
  case neg =>
    have hd5 : decide ((d2.length : Int) ≤ 20000) = false := by simp; omega
    go_wp2
    go_ret
    exact ⟨rfl, HFN.out _ HB3.out⟩
  have hd5 : decide ((d2.length : Int) ≤ 20000) = true := by simp; omega
  go_upto_region 5 with fail
  go_cut [15] from 68 to 75 (fun v wx => ∃ xb : Bool, v = .bool xb ∧ (xb = true ↔ ((a1 = b1 ∧ a2 = b2 ∧ a3 = b3) ∧ ckState a1 a2 a3 = 0)) ∧ Below V5.heap.size V5 wx)
  case first =>
    by_cases h0 : a1 = b1
    case neg =>
      go_wp2
      go_meet
      exact ⟨false, rfl, by simp [h0], HB3.out⟩
    obtain rfl := h0
    by_cases h1 : a2 = b2
    case neg =>
      go_wp2
      go_meet
      exact ⟨false, rfl, by simp [h1], HB3.out⟩
    obtain rfl := h1
    by_cases h2 : a3 = b3
    case neg =>
      go_wp2
      go_meet
      exact ⟨false, rfl, by simp [h2], HB3.out⟩
    obtain rfl := h2
    have ckr := fun w' => refCkState_any a1 a2 a3 w'
    obtain ⟨E, HE⟩ : ∃ E, Hid (ckState a1 a2 a3 = E) := ⟨_, rfl⟩
    rw [HE.out] at ckr
    go_wp2_with (go_at_call 16; refine (ckr _).mono ?_; rintro e w4 ⟨rfl, hB4⟩)
    go_meet
    exact ⟨_, rfl, by rw [HE.out]; simp, HB3.out.trans (hB4.mono HB3.out.size)⟩
  case rest =>
    obtain ⟨xb, rfl, hxb, hB5⟩ := hcut
    have HXB : Hid (xb = true ↔ ((a1 = b1 ∧ a2 = b2 ∧ a3 = b3) ∧ ckState a1 a2 a3 = 0)) := hxb
    have HB5 : Hid (Below V5.heap.size V5 wc) := hB5
    clear hxb hB5
    generalize wc = w5 at *
    obtain ⟨⟨qa0, qa1, qa2⟩, -⟩ := cells3 (HXa.out w5 HB5.out)
    obtain ⟨⟨qb0, qb1, qb2⟩, -⟩ := cells3 (HXb.out w5 HB5.out)
    obtain ⟨⟨qc0, qc1, qc2, qc3, qc4, qc5⟩, -⟩ := cells6 (HXc.out w5 HB5.out)
    obtain ⟨⟨qd0, qd1, qd2, qd3, qd4, qd5⟩, -⟩ := cells6 (HXd.out w5 HB5.out)
    obtain ⟨⟨qm0, qm1, qm2, qm3, qm4, qm5, qm6, qm7, qm8, qm9, qm10, qm11, qm12, qm13⟩, -⟩ := cells14 (HXm.out w5 HB5.out)
    obtain ⟨⟨qn0, qn1, qn2, qn3, qn4, qn5, qn6, qn7, qn8, qn9, qn10, qn11, qn12, qn13⟩, -⟩ := cells14 (HXn.out w5 HB5.out)
    have hl5 := HLT.out w5 HB5.out
    have hl5a : w.heap.size < w5.heap.size := by omega
    have hl5b : w.heap.size + 1 < w5.heap.size := by omega
    have hl5c : w.heap.size + 2 < w5.heap.size := by omega
    have hl5d : w.heap.size + 3 < w5.heap.size := by omega
    have hl5e : w.heap.size + 4 < w5.heap.size := by omega
    have hl5f : w.heap.size + 5 < w5.heap.size := by omega
    go_upto_region 6 with fail
    go_cut [16] from 76 to 83 (fun v wx => ∃ xb : Bool, v = .bool xb ∧ (xb = true ↔ ((o1 = o2 ∧ p1 = p2 ∧ s1 = s2 ∧ k1 = k2 ∧ l1 = l2 ∧ d1 = d2) ∧ ckCommand o1 p1 s1 k1 l1 d1 = 0)) ∧ Below V5.heap.size V5 wx)
    case first =>
      by_cases h0 : o1 = o2
      case neg =>
        go_wp2
        go_meet
        exact ⟨false, rfl, by simp [h0], HB5.out⟩
      obtain rfl := h0
      by_cases h1 : p1 = p2
      case neg =>
        go_wp2
        go_meet
        exact ⟨false, rfl, by simp [h1], HB5.out⟩
      obtain rfl := h1
      by_cases h2 : s1 = s2
      case neg =>
        go_wp2
        go_meet
        exact ⟨false, rfl, by simp [h2], HB5.out⟩
      obtain rfl := h2
      by_cases h3 : k1 = k2
      case neg =>
        go_wp2
        go_meet
        exact ⟨false, rfl, by simp [h3], HB5.out⟩
      obtain rfl := h3
      by_cases h4 : l1 = l2
      case neg =>
        go_wp2
        go_meet
        exact ⟨false, rfl, by simp [h4], HB5.out⟩
      obtain rfl := h4
      by_cases h5 : d1 = d2
      case neg =>
        go_wp2
        go_meet
        exact ⟨false, rfl, by simp [h5], HB5.out⟩
      obtain rfl := h5
      have ckr := fun w' => refCkCommand_any o1 p1 s1 k1 l1 d1 w'
      obtain ⟨E, HE⟩ : ∃ E, Hid (ckCommand o1 p1 s1 k1 l1 d1 = E) := ⟨_, rfl⟩
      rw [HE.out] at ckr
      go_wp2_with (go_at_call 17; refine (ckr _).mono ?_; rintro e w6 ⟨rfl, hB6⟩)
      go_meet
      exact ⟨_, rfl, by rw [HE.out]; simp, HB5.out.trans (hB6.mono HB5.out.size)⟩
    case rest =>
      obtain ⟨yb, rfl, hyb, hB7⟩ := hcut
      have HYB : Hid (yb = true ↔ ((o1 = o2 ∧ p1 = p2 ∧ s1 = s2 ∧ k1 = k2 ∧ l1 = l2 ∧ d1 = d2) ∧ ckCommand o1 p1 s1 k1 l1 d1 = 0)) := hyb
      have HB7 : Hid (Below V5.heap.size V5 wc) := hB7
      clear hyb hB7
      generalize wc = w7 at *
      obtain ⟨⟨qa0, qa1, qa2⟩, -⟩ := cells3 (HXa.out w7 HB7.out)
      obtain ⟨⟨qb0, qb1, qb2⟩, -⟩ := cells3 (HXb.out w7 HB7.out)
      obtain ⟨⟨qc0, qc1, qc2, qc3, qc4, qc5⟩, -⟩ := cells6 (HXc.out w7 HB7.out)
      obtain ⟨⟨qd0, qd1, qd2, qd3, qd4, qd5⟩, -⟩ := cells6 (HXd.out w7 HB7.out)
      obtain ⟨⟨qm0, qm1, qm2, qm3, qm4, qm5, qm6, qm7, qm8, qm9, qm10, qm11, qm12, qm13⟩, -⟩ := cells14 (HXm.out w7 HB7.out)
      obtain ⟨⟨qn0, qn1, qn2, qn3, qn4, qn5, qn6, qn7, qn8, qn9, qn10, qn11, qn12, qn13⟩, -⟩ := cells14 (HXn.out w7 HB7.out)
      have hl7 := HLT.out w7 HB7.out
      have hl7a : w.heap.size < w7.heap.size := by omega
      have hl7b : w.heap.size + 1 < w7.heap.size := by omega
      have hl7c : w.heap.size + 2 < w7.heap.size := by omega
      have hl7d : w.heap.size + 3 < w7.heap.size := by omega
      have hl7e : w.heap.size + 4 < w7.heap.size := by omega
      have hl7f : w.heap.size + 5 < w7.heap.size := by omega
      go_wp2_with fail
      refine (sameMsgs_any m n w.heap.size w7 (HAT.out w7 HB7.out) (HATn.out w7 HB7.out) (by omega) (by omega)).mono ?_
      rintro e w8 ⟨t8, rfl, ht8, hB8⟩
      have HB8 : Hid (Below V5.heap.size V5 w8) := HB7.out.trans (hB8.mono HB7.out.size)
      have HT8 : Hid (t8 = true ↔ m.says = n.says) := ht8
      clear ht8 hB8
      have HCKM : Hid (∀ w', Below V5.heap.size V5 w' → Calls Try.prog 19 #[m.v] w' fun e w'' => e = .returned (.int .i64 (m.ck : Int)) ∧ Below w'.heap.size w' w'') := fun w' hB => refChkMsg_any m w.heap.size w' (HAT.out w' hB) (by have := HLT.out w' hB; omega) (by omega)
      have HSA : Hid (∀ w', Calls Try.prog 20 #[.iface 56 (.agg #[]), .agg #[.int .i64 a1, .int .i64 a2, .int .i64 a3], .agg #[.int .i64 b1, .int .i64 b2, .int .i64 b3]] w' fun r w'' => ∃ tb : Bool, r = .returned (.bool tb) ∧ (tb = true ↔ ((a1 = b1 ∧ a2 = b2 ∧ a3 = b3) ∧ ckState a1 a2 a3 = 0)) ∧ Below w'.heap.size w' w'') := fun w' => by
        refine (sameStateT_any a1 a2 a3 b1 b2 b3 w').mono ?_
        rintro e w'' ⟨tb, rfl, h, hB⟩
        exact ⟨tb, rfl, h.trans state_iff, hB⟩
      have HSC : Hid (∀ w', Calls Try.prog 21 #[.iface 58 (.agg #[]), .agg #[.int .i64 o1, .int .i64 p1, .int .i64 s1, .string ⟨k1.toArray⟩, .string ⟨l1.toArray⟩, .string ⟨d1.toArray⟩], .agg #[.int .i64 o2, .int .i64 p2, .int .i64 s2, .string ⟨k2.toArray⟩, .string ⟨l2.toArray⟩, .string ⟨d2.toArray⟩]] w' fun r w'' => ∃ tb : Bool, r = .returned (.bool tb) ∧ (tb = true ↔ ((o1 = o2 ∧ p1 = p2 ∧ s1 = s2 ∧ k1 = k2 ∧ l1 = l2 ∧ d1 = d2) ∧ ckCommand o1 p1 s1 k1 l1 d1 = 0)) ∧ Below w'.heap.size w' w'') := fun w' => by
        refine (sameCommandT_any o1 p1 s1 k1 l1 d1 o2 p2 s2 k2 l2 d2 w').mono ?_
        rintro e w'' ⟨tb, rfl, h, hB⟩
        exact ⟨tb, rfl, h.trans command_iff, hB⟩
      have HSM : Hid (∀ w', Below V5.heap.size V5 w' → Calls Try.prog 22 #[.iface 60 (.agg #[]), .agg #[.int .i64 m.kd, .int .i64 m.fr, .int .i64 m.to, .int .i64 m.tm, .int .i64 m.ix, .int .i64 m.lt, .int .i64 m.cm, .int .i64 m.hi, .int .i64 m.cx, .bool m.rj, .slice m.ea m.es.length m.ec, .int .i64 m.si, .int .i64 m.st, .slice m.sa m.sd.length m.sc], .agg #[.int .i64 n.kd, .int .i64 n.fr, .int .i64 n.to, .int .i64 n.tm, .int .i64 n.ix, .int .i64 n.lt, .int .i64 n.cm, .int .i64 n.hi, .int .i64 n.cx, .bool n.rj, .slice n.ea n.es.length n.ec, .int .i64 n.si, .int .i64 n.st, .slice n.sa n.sd.length n.sc]] w' fun r w'' => ∃ tb : Bool, r = .returned (.bool tb) ∧ (tb = true ↔ (m.says = n.says ∧ m.ck = 0)) ∧ Below w'.heap.size w' w'') := fun w' hB => by
        refine (sameMsgT_any m n w' w.heap.size (HAT.out w' hB) (HATn.out w' hB) (by have := HLT.out w' hB; omega)).mono ?_
        rintro e w'' ⟨tb, rfl, h, hB'⟩
        exact ⟨tb, rfl, h.trans msg_iff, hB'⟩
      obtain ⟨⟨qa0, qa1, qa2⟩, -⟩ := cells3 (HXa.out w8 HB8.out)
      obtain ⟨⟨qb0, qb1, qb2⟩, -⟩ := cells3 (HXb.out w8 HB8.out)
      obtain ⟨⟨qc0, qc1, qc2, qc3, qc4, qc5⟩, -⟩ := cells6 (HXc.out w8 HB8.out)
      obtain ⟨⟨qd0, qd1, qd2, qd3, qd4, qd5⟩, -⟩ := cells6 (HXd.out w8 HB8.out)
      obtain ⟨⟨qm0, qm1, qm2, qm3, qm4, qm5, qm6, qm7, qm8, qm9, qm10, qm11, qm12, qm13⟩, -⟩ := cells14 (HXm.out w8 HB8.out)
      obtain ⟨⟨qn0, qn1, qn2, qn3, qn4, qn5, qn6, qn7, qn8, qn9, qn10, qn11, qn12, qn13⟩, -⟩ := cells14 (HXn.out w8 HB8.out)
      have hl8 := HLT.out w8 HB8.out
      have hl8a : w.heap.size < w8.heap.size := by omega
      have hl8b : w.heap.size + 1 < w8.heap.size := by omega
      have hl8c : w.heap.size + 2 < w8.heap.size := by omega
      have hl8d : w.heap.size + 3 < w8.heap.size := by omega
      have hl8e : w.heap.size + 4 < w8.heap.size := by omega
      have hl8f : w.heap.size + 5 < w8.heap.size := by omega
      obtain ⟨EM, HEM⟩ : ∃ EM, Hid (m.ck = EM) := ⟨_, rfl⟩
      rw [HEM.out] at HCKM HSM
      cases t8 with
      | false =>
        have HZ : Hid (false = true ↔ (m.says = n.says ∧ EM = 0)) := by
          show false = true ↔ _
          have := HT8.out
          simp at this
          simp [this]
        go_wp2_with fail
        refine (HSA.out _).mono ?_
        rintro e w9 ⟨t9, rfl, ht9, hB9⟩
        obtain rfl : t9 = xb := by rw [Bool.eq_iff_iff]; exact ht9.trans HXB.out.symm
        have HB9 : Hid (Below V5.heap.size V5 w9) := HB8.out.trans (hB9.mono HB8.out.size)
        clear ht9 hB9
        have hx9 : (t9 == t9) = true := by simp
        obtain ⟨⟨qc0, qc1, qc2, qc3, qc4, qc5⟩, -⟩ := cells6 (HXc.out w9 HB9.out)
        obtain ⟨⟨qd0, qd1, qd2, qd3, qd4, qd5⟩, -⟩ := cells6 (HXd.out w9 HB9.out)
        obtain ⟨⟨qm0, qm1, qm2, qm3, qm4, qm5, qm6, qm7, qm8, qm9, qm10, qm11, qm12, qm13⟩, -⟩ := cells14 (HXm.out w9 HB9.out)
        obtain ⟨⟨qn0, qn1, qn2, qn3, qn4, qn5, qn6, qn7, qn8, qn9, qn10, qn11, qn12, qn13⟩, -⟩ := cells14 (HXn.out w9 HB9.out)
        have hl9 := HLT.out w9 HB9.out
        have hl9a : w.heap.size < w9.heap.size := by omega
        have hl9b : w.heap.size + 1 < w9.heap.size := by omega
        have hl9c : w.heap.size + 2 < w9.heap.size := by omega
        have hl9d : w.heap.size + 3 < w9.heap.size := by omega
        have hl9e : w.heap.size + 4 < w9.heap.size := by omega
        have hl9f : w.heap.size + 5 < w9.heap.size := by omega
        go_wp2_with fail
        refine (HSC.out _).mono ?_
        rintro e w10 ⟨t10, rfl, ht10, hB10⟩
        obtain rfl : t10 = yb := by rw [Bool.eq_iff_iff]; exact ht10.trans HYB.out.symm
        have HB10 : Hid (Below V5.heap.size V5 w10) := HB9.out.trans (hB10.mono HB9.out.size)
        clear ht10 hB10
        have hx10 : (t10 == t10) = true := by simp
        obtain ⟨⟨qm0, qm1, qm2, qm3, qm4, qm5, qm6, qm7, qm8, qm9, qm10, qm11, qm12, qm13⟩, -⟩ := cells14 (HXm.out w10 HB10.out)
        obtain ⟨⟨qn0, qn1, qn2, qn3, qn4, qn5, qn6, qn7, qn8, qn9, qn10, qn11, qn12, qn13⟩, -⟩ := cells14 (HXn.out w10 HB10.out)
        have hl10 := HLT.out w10 HB10.out
        have hl10a : w.heap.size < w10.heap.size := by omega
        have hl10b : w.heap.size + 1 < w10.heap.size := by omega
        have hl10c : w.heap.size + 2 < w10.heap.size := by omega
        have hl10d : w.heap.size + 3 < w10.heap.size := by omega
        have hl10e : w.heap.size + 4 < w10.heap.size := by omega
        have hl10f : w.heap.size + 5 < w10.heap.size := by omega
        go_wp2_with fail
        refine (HSM.out _ HB10.out).mono ?_
        rintro e w11 ⟨t11, rfl, ht11, hB11⟩
        obtain rfl : t11 = false := by rw [Bool.eq_iff_iff]; exact ht11.trans HZ.out.symm
        go_wp2
        go_ret
        exact ⟨rfl, HFN.out _ (HB10.out.trans (hB11.mono HB10.out.size))⟩
      | true =>
        have HZ : Hid (((EM : Int) == 0) = true ↔ (m.says = n.says ∧ EM = 0)) := by
          show ((EM : Int) == 0) = true ↔ _
          have := HT8.out
          simp at this
          simp [this]
        go_wp2_with fail
        refine (HCKM.out _ HB8.out).mono ?_
        rintro e w8b ⟨rfl, hB8b⟩
        have HB8b : Hid (Below V5.heap.size V5 w8b) := HB8.out.trans (hB8b.mono HB8.out.size)
        clear hB8b
        obtain ⟨⟨qa0, qa1, qa2⟩, -⟩ := cells3 (HXa.out w8b HB8b.out)
        obtain ⟨⟨qb0, qb1, qb2⟩, -⟩ := cells3 (HXb.out w8b HB8b.out)
        obtain ⟨⟨qc0, qc1, qc2, qc3, qc4, qc5⟩, -⟩ := cells6 (HXc.out w8b HB8b.out)
        obtain ⟨⟨qd0, qd1, qd2, qd3, qd4, qd5⟩, -⟩ := cells6 (HXd.out w8b HB8b.out)
        obtain ⟨⟨qm0, qm1, qm2, qm3, qm4, qm5, qm6, qm7, qm8, qm9, qm10, qm11, qm12, qm13⟩, -⟩ := cells14 (HXm.out w8b HB8b.out)
        obtain ⟨⟨qn0, qn1, qn2, qn3, qn4, qn5, qn6, qn7, qn8, qn9, qn10, qn11, qn12, qn13⟩, -⟩ := cells14 (HXn.out w8b HB8b.out)
        have hl8b := HLT.out w8b HB8b.out
        have hl8ba : w.heap.size < w8b.heap.size := by omega
        have hl8bb : w.heap.size + 1 < w8b.heap.size := by omega
        have hl8bc : w.heap.size + 2 < w8b.heap.size := by omega
        have hl8bd : w.heap.size + 3 < w8b.heap.size := by omega
        have hl8be : w.heap.size + 4 < w8b.heap.size := by omega
        have hl8bf : w.heap.size + 5 < w8b.heap.size := by omega
        obtain ⟨zb, HZB⟩ : ∃ zb, Hid (((EM : Int) == 0) = zb) := ⟨_, rfl⟩
        rw [HZB.out] at HZ
        go_wp2_with (fail)
        refine (HSA.out _).mono ?_
        rintro e w9 ⟨t9, rfl, ht9, hB9⟩
        obtain rfl : t9 = xb := by rw [Bool.eq_iff_iff]; exact ht9.trans HXB.out.symm
        have HB9 : Hid (Below V5.heap.size V5 w9) := HB8b.out.trans (hB9.mono HB8b.out.size)
        clear ht9 hB9
        have hx9 : (t9 == t9) = true := by simp
        obtain ⟨⟨qc0, qc1, qc2, qc3, qc4, qc5⟩, -⟩ := cells6 (HXc.out w9 HB9.out)
        obtain ⟨⟨qd0, qd1, qd2, qd3, qd4, qd5⟩, -⟩ := cells6 (HXd.out w9 HB9.out)
        obtain ⟨⟨qm0, qm1, qm2, qm3, qm4, qm5, qm6, qm7, qm8, qm9, qm10, qm11, qm12, qm13⟩, -⟩ := cells14 (HXm.out w9 HB9.out)
        obtain ⟨⟨qn0, qn1, qn2, qn3, qn4, qn5, qn6, qn7, qn8, qn9, qn10, qn11, qn12, qn13⟩, -⟩ := cells14 (HXn.out w9 HB9.out)
        have hl9 := HLT.out w9 HB9.out
        have hl9a : w.heap.size < w9.heap.size := by omega
        have hl9b : w.heap.size + 1 < w9.heap.size := by omega
        have hl9c : w.heap.size + 2 < w9.heap.size := by omega
        have hl9d : w.heap.size + 3 < w9.heap.size := by omega
        have hl9e : w.heap.size + 4 < w9.heap.size := by omega
        have hl9f : w.heap.size + 5 < w9.heap.size := by omega
        go_wp2_with fail
        refine (HSC.out _).mono ?_
        rintro e w10 ⟨t10, rfl, ht10, hB10⟩
        obtain rfl : t10 = yb := by rw [Bool.eq_iff_iff]; exact ht10.trans HYB.out.symm
        have HB10 : Hid (Below V5.heap.size V5 w10) := HB9.out.trans (hB10.mono HB9.out.size)
        clear ht10 hB10
        have hx10 : (t10 == t10) = true := by simp
        obtain ⟨⟨qm0, qm1, qm2, qm3, qm4, qm5, qm6, qm7, qm8, qm9, qm10, qm11, qm12, qm13⟩, -⟩ := cells14 (HXm.out w10 HB10.out)
        obtain ⟨⟨qn0, qn1, qn2, qn3, qn4, qn5, qn6, qn7, qn8, qn9, qn10, qn11, qn12, qn13⟩, -⟩ := cells14 (HXn.out w10 HB10.out)
        have hl10 := HLT.out w10 HB10.out
        have hl10a : w.heap.size < w10.heap.size := by omega
        have hl10b : w.heap.size + 1 < w10.heap.size := by omega
        have hl10c : w.heap.size + 2 < w10.heap.size := by omega
        have hl10d : w.heap.size + 3 < w10.heap.size := by omega
        have hl10e : w.heap.size + 4 < w10.heap.size := by omega
        have hl10f : w.heap.size + 5 < w10.heap.size := by omega
        go_wp2_with fail
        refine (HSM.out _ HB10.out).mono ?_
        rintro e w11 ⟨t11, rfl, ht11, hB11⟩
        obtain rfl : t11 = ((EM : Int) == 0) := by rw [Bool.eq_iff_iff]; exact ht11.trans (by rw [HZB.out]; exact HZ.out.symm)
        go_wp2
        go_ret
        exact ⟨rfl, HFN.out _ (HB10.out.trans (hB11.mono HB10.out.size))⟩
end Go.Proofs.Ytfnnbfgfmbiabab
