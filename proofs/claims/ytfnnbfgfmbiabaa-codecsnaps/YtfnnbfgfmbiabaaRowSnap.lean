/-
  For every snapshot and every bytes the law CodecSnaps returns true: Check, Put and Get answer what the document says, and leave what they were handed; no condition.
-/
import Derived.Test.YtfnnbfgfmbiabaaFir
import Derived.Test.YtfnnbfgfmbiabaaSamB
import Derived.Test.YtfnnbfgfmbiabaaRowIn
namespace Go.Proofs.Ytfnnbfgfmbiabaa
open Go.ChangeShapes Go.WideShapes Go.ChangeAt Go.RowKit Go.Shelf
set_option linter.unusedVariables false

set_option maxRecDepth 100000 in
set_option maxHeartbeats 8000000 in
theorem codecSnap_walk1 (i t : Int) (m : List UInt8) (a : Option Addr) (cap : Nat) (ab : Option Addr) (cb : Nat) (b : List UInt8) (w : World) (hb : Sl w.heap.size w (.slice ab b.length cb) b) (hx : Sl w.heap.size w (.slice a m.length cap) m) (hl : b.length ≤ 20000) (hm : m.length ≤ 20000) :
    Calls Try.prog 5 #[.agg #[.int .i64 i, .int .i64 t, .slice a m.length cap], .slice ab b.length cb] w fun e w' => e = .returned (.bool true) ∧ Below w.heap.size w w' := by
  have HTL : Hid ((if ckSnap i t m.length = 0 then txSnap i t m else []).length ≤ 1000000) := by
    show (if ckSnap i t m.length = 0 then txSnap i t m else []).length ≤ 1000000
    have := txSnap_len i t m
    split
    · omega
    · simp
  have hl1 : decide ((b.length : Int) ≤ 20000) = true := by simp; omega
  have hlm : decide ((m.length : Int) ≤ 20000) = true := by simp; omega
  obtain ⟨W0, hW0⟩ : ∃ W0, w.alloc (.cells #[.int .i64 i, .int .i64 t, .slice a m.length cap] 57) = W0 := ⟨_, rfl⟩
  have HW0 : Hid (w.alloc (.cells #[.int .i64 i, .int .i64 t, .slice a m.length cap] 57) = W0) := hW0
  have HBW : Hid (Below w.heap.size w W0) := by show Below w.heap.size w W0; rw [← hW0]; exact (Below.refl _ w).alloc (Nat.le_refl _) _
  have HS0 : Hid (W0.heap.size = w.heap.size + 1) := by show W0.heap.size = _; rw [← hW0]; simp
  have HX : Hid (∀ w', Below W0.heap.size W0 w' → w'.heap[w.heap.size]? = some (.cells #[.int .i64 i, .int .i64 t, .slice a m.length cap] 57 (0, 0))) := fun w' hB => by
    refine (hB.block _ (by have := HS0.out; omega)).trans ?_
    rw [← hW0]; exact World.alloc_heap_new w _
  have HLT : Hid (∀ w', Below W0.heap.size W0 w' → w.heap.size < w'.heap.size) := fun w' hB => by have := hB.size; have := HS0.out; omega
  have hb0 := hb.below HBW.out
  have hx0 := hx.below HBW.out
  clear hW0
  have hzW : w.heap.size ≤ W0.heap.size := HBW.out.size
  have HFN : Hid (∀ w', Below W0.heap.size W0 w' → Below w.heap.size w w') := fun w' hB => HBW.out.trans (hB.mono hzW)
  go_enter Try.func5, Try.ntmps5
  go_wp2_with fail
  rw [HW0.out]
  refine (first_any _).mono ?_
  rintro e w1 ⟨rfl, hB1⟩
  have HB1 : Hid (Below W0.heap.size W0 w1) := hB1
  clear hB1
  have hlt1 := HLT.out w1 HB1.out
  obtain ⟨⟨q0, q1, q2⟩, -⟩ := cells3 (HX.out w1 HB1.out)
  go_wp2_with fail
  refine (putSnap_any i t m a cap (w1.alloc (.cells #[] 58)) w.heap.size (hx0.below (((HB1.out.alloc HB1.out.size _)).mono hzW)) (by have := HLT.out w1 HB1.out; simp; omega)).mono ?_
  rintro e w2 ⟨v2, rfl, hO2, hB2⟩
  have HB2 : Hid (Below W0.heap.size W0 w2) := (HB1.out.alloc HB1.out.size _).trans (hB2.mono (by have := HB1.out.size; simp; omega))
  have HZ2 : Hid (w1.heap.size < w2.heap.size) := by have := hB2.size; show w1.heap.size < w2.heap.size; simp at this; omega
  have HC2 : Hid (∀ w', Below w2.heap.size w2 w' → w'.heap[w1.heap.size]? = some (.cells #[] 58 (0, 0))) := fun w' hB => (hB.block _ HZ2.out).trans ((hB2.block _ (by simp)).trans (World.alloc_heap_new w1 _))
  have rp2 := refPutSnap_any i t m a cap w2 w.heap.size (hx0.below (HB2.out.mono hzW)) (by have := HLT.out w2 HB2.out; omega)
  have ckA := fun w' => ckSnap_any i t a m.length cap w'
  have ckB := fun w' => refCkSnap_any i t a m.length cap w'
  obtain ⟨T, HT⟩ : ∃ T, Hid ((if ckSnap i t m.length = 0 then txSnap i t m else []) = T) := ⟨_, rfl⟩
  obtain ⟨E, HE⟩ : ∃ E, Hid (ckSnap i t m.length = E) := ⟨_, rfl⟩
  have HTL2 : Hid (T.length ≤ 1000000) := by have := HTL.out; rw [HT.out] at this; exact this
  rw [HT.out] at hO2 rp2
  rw [HE.out] at rp2 ckA ckB ⊢
  obtain ⟨ta, tc, rfl, -, -⟩ := hO2.shape
  clear hB2 HTL
  have hlt2 := HLT.out w2 HB2.out
  obtain ⟨⟨q0, q1, q2⟩, -⟩ := cells3 (HX.out w2 HB2.out)
  go_wp2_with fail
  refine rp2.mono ?_
  rintro e w3 ⟨v3, rfl, hS3, hB3⟩
  have HB3 : Hid (Below W0.heap.size W0 w3) := HB2.out.trans (hB3.mono HB2.out.size)
  have hB23 : Below w2.heap.size w2 w3 := hB3
  have hO3 := hO2.below hB3 (Nat.le_refl _)
  obtain ⟨xa, xc, rfl, -⟩ := id hS3
  clear hB3 rp2
  go_wp2_with fail
  refine (same_any _ _ _ T T w3 (hO3.sl (Nat.le_refl _)) hS3).mono ?_
  rintro e w4 ⟨rfl, n4, hw4⟩
  have HB4 : Hid (Below W0.heap.size W0 w4) := by show Below _ _ _; rw [hw4]; exact below_drewN HB3.out n4
  have HB24 : Hid (Below w2.heap.size w2 w4) := by show Below _ _ _; rw [hw4]; exact below_drewN hB23 n4
  have HO4 : Hid (Ow (w1.alloc (.cells #[] 58)).heap.size w4 (.slice ta T.length tc) T) := by show Ow _ _ _ _; rw [hw4]; exact hO3.below (below_drewN (Below.refl _ _) n4) (Nat.le_refl _)
  clear hw4 hO2 hO3 hS3 HB3 hB23
  simp only [decide_true]
  have hlt4 := HLT.out w4 HB4.out
  obtain ⟨⟨q0, q1, q2⟩, -⟩ := cells3 (HX.out w4 HB4.out)
  have hc4 := HC2.out w4 HB24.out
  go_wp2_with fail
  go_region_held3 (fun w' => w'.cell? ⟨w.heap.size, 0, none⟩ = some (.int .i64 i) ∧ w'.cell? ⟨w.heap.size, 1, none⟩ = some (.int .i64 t) ∧ w'.cell? ⟨w.heap.size, 2, none⟩ = some (.slice a m.length cap)) (go_keep)
    (first
      | (go_at_call 13; refine (num_any _ _).mono ?_; rintro e w' ⟨rfl, hw⟩; subst w')
      | (go_at_call 29; refine (ckA _).mono ?_; rintro e w5 ⟨rfl, hB5⟩; have hB5x : Below w4.heap.size w4 w5 := ⟨hB5.os, hB5.tape, hB5.output, hB5.size, hB5.block⟩; obtain ⟨⟨q0, q1, q2⟩, -⟩ := cells3 (HX.out w5 (HB4.out.trans (hB5x.mono HB4.out.size))))
      | (go_at_call 30; refine (ckB _).mono ?_; rintro e w6 ⟨rfl, hB6⟩; have hB6x : Below w5.heap.size w5 w6 := ⟨hB6.os, hB6.tape, hB6.output, hB6.size, hB6.block⟩; obtain ⟨⟨q0, q1, q2⟩, -⟩ := cells3 (HX.out w6 ((HB4.out.trans (hB5x.mono HB4.out.size)).trans (hB6x.mono (HB4.out.trans (hB5x.mono HB4.out.size)).size)))))
  have HB56 : Hid (Below w4.heap.size w4 w6) := hB5x.trans (hB6x.mono hB5x.size)
  have HB6 : Hid (Below W0.heap.size W0 w6) := HB4.out.trans (HB56.out.mono HB4.out.size)
  have HB26 : Hid (Below w2.heap.size w2 w6) := HB24.out.trans (HB56.out.mono HB24.out.size)
  have HO6 : Hid (Ow (w1.alloc (.cells #[] 58)).heap.size w6 (.slice ta T.length tc) T) := HO4.out.below HB56.out (Nat.le_refl _)
  have hc6 := HC2.out w6 HB26.out
  clear hB5 hB5x hB6 hB6x HO4 HB56 hc4
  have hlt6 := HLT.out w6 HB6.out
  have hb6 := hb0.below (HB6.out.mono hzW)
  go_wp2_with fail
  refine (lent_any w.heap.size _ b w6 hb6 (by omega) hl).mono ?_
  rintro e w7 ⟨g, gc, rfl, hO7, hB7⟩
  have HB7 : Hid (Below W0.heap.size W0 w7) := HB6.out.trans (hB7.mono HB6.out.size)
  have HB27 : Hid (Below w2.heap.size w2 w7) := HB26.out.trans (hB7.mono HB26.out.size)
  have HO7 : Hid (Ow (w1.alloc (.cells #[] 58)).heap.size w7 (.slice ta T.length tc) T) := HO6.out.below hB7 (Nat.le_refl _)
  have hc7 := HC2.out w7 HB27.out
  clear hB7 HO6 hc6
  go_wp2_with fail
  refine (getSnap_any b _ w7.heap.size w7 (hO7.lent (Nat.le_refl _)) (Nat.le_refl _) (by omega)).mono ?_
  rintro e w8 ⟨u8, rfl, hY8, hB8⟩
  obtain ⟨ya, yc, hyy, -, -⟩ := hY8.shape
  subst hyy
  have HB8 : Hid (Below W0.heap.size W0 w8) := HB7.out.trans (hB8.mono HB7.out.size)
  have HB28 : Hid (Below w2.heap.size w2 w8) := HB27.out.trans (hB8.mono HB27.out.size)
  have HO8 : Hid (Ow (w1.alloc (.cells #[] 58)).heap.size w8 (.slice ta T.length tc) T) := HO7.out.below hB8 (Nat.le_refl _)
  have hL8 := hO7.below hB8 (Nat.le_refl _)
  clear hB8 hc7 hO7 HO7
  go_wp2_with fail
  obtain ⟨Wy, hWy⟩ : ∃ Wy, w8.alloc (.cells #[.int .i64 ((goSnap b).1 : Int), .int .i64 ((goSnap b).2.1 : Int), .slice ya (goSnap b).2.2.length yc] 57) = Wy := ⟨_, rfl⟩
  rw [hWy]
  have HY : Hid (∀ w', Below Wy.heap.size Wy w' → w'.heap[w8.heap.size]? = some (.cells #[.int .i64 ((goSnap b).1 : Int), .int .i64 ((goSnap b).2.1 : Int), .slice ya (goSnap b).2.2.length yc] 57 (0, 0))) := fun w' hB => by
    refine (hB.block _ (by rw [← hWy]; simp)).trans ?_
    rw [← hWy]; exact World.alloc_heap_new w8 _
  have hBy : Below w8.heap.size w8 Wy := by rw [← hWy]; exact (Below.refl _ _).alloc (Nat.le_refl _) _
  have HZy : Hid (w8.heap.size < Wy.heap.size) := by show w8.heap.size < Wy.heap.size; rw [← hWy]; simp
  clear hWy
  have HBy : Hid (Below W0.heap.size W0 Wy) := HB8.out.trans (hBy.mono HB8.out.size)
  have HB2y : Hid (Below w2.heap.size w2 Wy) := HB28.out.trans (hBy.mono HB28.out.size)
  have HOy : Hid (Ow (w1.alloc (.cells #[] 58)).heap.size Wy (.slice ta T.length tc) T) := HO8.out.below hBy (Nat.le_refl _)
  have hLy := hL8.below hBy (Nat.le_refl _)
  have hby := hb0.below (HBy.out.mono hzW)
  refine (refGetSnap_any b _ w.heap.size Wy hby (by have := HLT.out Wy HBy.out; omega) hl).mono ?_
  rintro e w9 ⟨u9, rfl, hV9, hB9⟩
  obtain ⟨va, vc, hvv, -⟩ := id hV9
  subst hvv
  have HB9 : Hid (Below W0.heap.size W0 w9) := HBy.out.trans (hB9.mono HBy.out.size)
  have HB29 : Hid (Below w2.heap.size w2 w9) := HB2y.out.trans (hB9.mono HB2y.out.size)
  have HBy9 : Hid (Below Wy.heap.size Wy w9) := hB9
  have HO9 : Hid (Ow (w1.alloc (.cells #[] 58)).heap.size w9 (.slice ta T.length tc) T) := HOy.out.below hB9 (Nat.le_refl _)
  have hL9 := hLy.below hB9 (Nat.le_refl _)
  clear hB9 HO8 HOy hL8 hLy hby
  go_wp2_with fail
  obtain ⟨Wv, hWv⟩ : ∃ Wv, w9.alloc (.cells #[.int .i64 ((goSnap b).1 : Int), .int .i64 ((goSnap b).2.1 : Int), .slice va (goSnap b).2.2.length vc] 57) = Wv := ⟨_, rfl⟩
  rw [hWv]
  have HV : Hid (∀ w', Below Wv.heap.size Wv w' → w'.heap[w9.heap.size]? = some (.cells #[.int .i64 ((goSnap b).1 : Int), .int .i64 ((goSnap b).2.1 : Int), .slice va (goSnap b).2.2.length vc] 57 (0, 0))) := fun w' hB => by
    refine (hB.block _ (by rw [← hWv]; simp)).trans ?_
    rw [← hWv]; exact World.alloc_heap_new w9 _
  have hBv : Below w9.heap.size w9 Wv := by rw [← hWv]; exact (Below.refl _ _).alloc (Nat.le_refl _) _
  have HZv : Hid (w9.heap.size < Wv.heap.size) := by show w9.heap.size < Wv.heap.size; rw [← hWv]; simp
  clear hWv
  have HBv : Hid (Below W0.heap.size W0 Wv) := HB9.out.trans (hBv.mono HB9.out.size)
  have HB2v : Hid (Below w2.heap.size w2 Wv) := HB29.out.trans (hBv.mono HB29.out.size)
  have HByv : Hid (Below Wy.heap.size Wy Wv) := HBy9.out.trans (hBv.mono HBy9.out.size)
  have HOv : Hid (Ow (w1.alloc (.cells #[] 58)).heap.size Wv (.slice ta T.length tc) T) := HO9.out.below hBv (Nat.le_refl _)
  have hLv := hL9.below hBv (Nat.le_refl _)
  have hbv := hb0.below (HBv.out.mono hzW)
  refine (kept_any _ g gc _ b Wv hl hLv (hbv.mono (by have := HLT.out Wv HBv.out; omega))).mono ?_
  rintro e w10 ⟨rfl, n10, hw10⟩
  have hB10 : Below Wv.heap.size Wv w10 := by rw [hw10]; exact below_drewN (Below.refl _ _) n10
  have hy10 := HY.out w10 (HByv.out.trans (hB10.mono HByv.out.size))
  have hv10 := HV.out w10 hB10
  obtain ⟨⟨y0, y1, y2⟩, -⟩ := cells3 hy10
  obtain ⟨⟨v0, v1, v2⟩, -⟩ := cells3 hv10
  clear hw10
  have hYs := (((hY8.below hBy (Nat.le_refl _)).below HByv.out (Nat.le_refl _)).below hB10 (Nat.le_refl _)).sl (Nat.le_refl w10.heap.size)
  have hVs := ((hV9.below hBv).below (hB10.mono hBv.size)).mono (show w9.heap.size ≤ w10.heap.size by have := hBv.size; have := hB10.size; omega)
  clear hY8 hV9
  go_wp2_with fail
  refine (sameSnap_any _ _ _ _ _ _ _ _ _ _ w10.heap.size w10 hYs hVs (Nat.le_refl _)).mono ?_
  clear hYs hVs y0 v0 y1 v1 y2 v2 hy10 hv10
  have hB10a := hB10
  clear hB10
  rintro e w10b ⟨rfl, hB10b⟩
  have hB10 : Below Wv.heap.size Wv w10b := hB10a.trans (hB10b.mono hB10a.size)
  clear hB10a hB10b
  generalize w10b = w10 at *
  simp only [decide_true, BEq.rfl, Bool.and_self]
  have HB10 : Hid (Below W0.heap.size W0 w10) := HBv.out.trans (hB10.mono HBv.out.size)
  have HB210 : Hid (Below w2.heap.size w2 w10) := HB2v.out.trans (hB10.mono HB2v.out.size)
  have HO10 : Hid (Ow (w1.alloc (.cells #[] 58)).heap.size w10 (.slice ta T.length tc) T) := HOv.out.below hB10 (Nat.le_refl _)
  have hc10 := HC2.out w10 HB210.out
  clear hLv hbv HO9 HOv hL9 hBy hBv
  have hlt10 := HLT.out w10 HB10.out
  obtain ⟨⟨q0, q1, q2⟩, -⟩ := cells3 (HX.out w10 HB10.out)
  by_cases hE0 : E = 0
  case neg =>
    have hke : ((E : Int) != 0) = true := by simp; omega
    go_wp2_with (go_at_call 13; refine (num_any _ _).mono ?_; rintro e w' ⟨rfl, hw⟩; subst w')
    go_ret
    exact ⟨rfl, HFN.out _ HB10.out⟩
  have hgt : geSnap T = 0 ∧ goSnap T = (i.toNat, t.toNat, m) := by
    have hk0 := HE.out.trans hE0
    have := HT.out
    rw [if_pos hk0] at this
    rw [← this]
    exact geSnap_tx hk0
  have HN : Hid (((i.toNat : Nat) : Int) = i ∧ ((t.toNat : Nat) : Int) = t) := by
    obtain ⟨ki, kt, km⟩ := ckSnap_ok (HE.out.trans hE0)
    simp only [isNumB, decide_eq_true_eq] at ki kt
    refine ⟨?_, ?_⟩ <;> omega
  subst hE0
  have HGT : Hid (geSnap T = 0 ∧ goSnap T = (i.toNat, t.toNat, m)) := hgt
  clear hgt
  have HGL : Hid (∀ g2, ta = some ⟨g2, 0, none⟩ → g2 < w10.heap.size ∧ W0.heap.size ≤ g2) := fun g2 e => by
    have := World.ownsRow.lt HO10.out g2 (by rw [e]; rfl)
    have h1 := HB1.out.size
    simp only [World.size_alloc] at this
    exact ⟨this.2, by omega⟩
  go_wp2_with (go_at_call 13; refine (num_any _ _).mono ?_; rintro e w' ⟨rfl, hw⟩; subst w')
  refine (getSnap_any T _ w10.heap.size w10 (HO10.out.sl (Nat.le_refl _)) (Nat.le_refl _) (by have := HTL2.out; omega)).mono ?_
  rintro e w11 ⟨u11, rfl, hZ11, hB11⟩
  rw [HGT.out.1]
  rw [HGT.out.2] at hZ11 ⊢
  obtain ⟨ni, nt⟩ := HN.out
  simp only [ni, nt]
  clear ni nt
  simp only at hZ11
  obtain ⟨za, zc, hzz, -, -⟩ := hZ11.shape
  subst hzz
  have HB11 : Hid (Below W0.heap.size W0 w11) := HB10.out.trans (hB11.mono HB10.out.size)
  have HO11 : Hid (Ow (w1.alloc (.cells #[] 58)).heap.size w11 (.slice ta T.length tc) T) := HO10.out.below hB11 (Nat.le_refl _)
  have hz11 := hB11.size
  clear hB11 HO10 hc10
  have hlt11 := HLT.out w11 HB11.out
  obtain ⟨⟨q0, q1, q2⟩, -⟩ := cells3 (HX.out w11 HB11.out)
  go_wp2_with fail
  have hcap : T.length ≤ tc ∧ tc ≤ maxLen := by
    obtain ⟨a', c', e', h1, h2⟩ := HO11.out.shape
    cases e'
    exact ⟨h1, h2⟩
  unfold maxLen at hcap
  obtain ⟨hcap1, hcap2⟩ := hcap
  obtain ⟨Wz, hWz⟩ : ∃ Wz, w11.alloc (.cells #[.int .i64 i, .int .i64 t, .slice za m.length zc] 57) = Wz := ⟨_, rfl⟩
  rw [hWz]
  have hBz : Below w11.heap.size w11 Wz := by rw [← hWz]; exact (Below.refl _ _).alloc (Nat.le_refl _) _
  have hz0 : Wz.heap[w11.heap.size]? = some (.cells #[.int .i64 i, .int .i64 t, .slice za m.length zc] 57 (0, 0)) := by rw [← hWz]; exact World.alloc_heap_new w11 _
  have hBW0 : Below W0.heap.size W0 Wz := HB11.out.trans (hBz.mono HB11.out.size)
  have hOz := HO11.out.below hBz (Nat.le_refl _)
  have hZ0 := hZ11.below hBz (Nat.le_refl _)
  have HTLn : Hid (T.length ≤ 1000000) := HTL2.out
  clear hWz hBz HO11
  obtain ⟨⟨q0, q1, q2⟩, -⟩ := cells3 (HX.out Wz hBW0)
  obtain ⟨⟨z0, z1, z2⟩, -⟩ := cells3 hz0
  have hxz := (hx0.below (hBW0.mono hzW)).mono (show w.heap.size ≤ Wz.heap.size by have := hBW0.size; omega)
  go_wp2_with fail
  refine (sameSnap_any _ _ _ _ _ _ _ _ _ _ Wz.heap.size Wz (hZ0.sl (Nat.le_refl _)) hxz (Nat.le_refl _)).mono ?_
  rintro e w12 ⟨rfl, hB12⟩
  simp only [decide_true, BEq.rfl, Bool.and_self]
  replace hz0 := (hB12.block _ (Array.getElem?_eq_some_iff.1 hz0).1).trans hz0
  replace hBW0 := hBW0.trans (hB12.mono hBW0.size)
  replace hOz := hOz.below hB12 (Nat.le_refl _)
  replace hZ0 := hZ0.below hB12 (Nat.le_refl _)
  clear hB12 hxz z0 z1 z2
  go_wp2_with fail
  go_loopw [23] (fun ii wr => ∃ (j : Nat) (T' : List UInt8), ii = .int .i64 (j : Int) ∧ j ≤ T.length ∧ T'.length = T.length ∧ Ow (w1.alloc (.cells #[] 58)).heap.size wr (.slice ta T.length tc) T' ∧ Below W0.heap.size W0 wr ∧ wr.heap[w11.heap.size]? = some (.cells #[.int .i64 i, .int .i64 t, .slice za m.length zc] 57 (0, 0)) ∧ Ow w10.heap.size wr (.slice za m.length zc) m) (fun ii _ => T.length - (intOf ii).toNat)
  case atStart => exact ⟨0, T, rfl, Nat.zero_le _, rfl, hOz, hBW0, hz0, hZ0⟩
  case round =>
    clear hOz hBW0 hz0 hZ0 hZ11
    obtain ⟨j, T', rfl, hj, hT', hOr, hBr, hzr, hZr⟩ := hrel
    by_cases hjl : j < T.length
    · obtain ⟨g2, hta, hgl2, -, -, -⟩ := Ow.at0 (l := T') (by rw [hT']; exact hOr) (by omega)
      subst hta
      have hG := HGL.out g2 rfl
      have hO' : Ow (w1.alloc (.cells #[] 58)).heap.size wr (.slice (some ⟨g2, 0, none⟩) T'.length tc) T' := by rw [hT']; exact hOr
      obtain ⟨k1, k2, k3⟩ := hO'.can j (by omega)
      have HF : Hid (Ow (w1.alloc (.cells #[] 58)).heap.size (wr.setCell ⟨g2, j, none⟩ (.int .u8 255)) (.slice (some ⟨g2, 0, none⟩) T.length tc) (T'.set j 255) ∧ Below W0.heap.size W0 (wr.setCell ⟨g2, j, none⟩ (.int .u8 255)) ∧ (wr.setCell ⟨g2, j, none⟩ (.int .u8 255)).heap[w11.heap.size]? = some (.cells #[.int .i64 i, .int .i64 t, .slice za m.length zc] 57 (0, 0)) ∧ Ow w10.heap.size (wr.setCell ⟨g2, j, none⟩ (.int .u8 255)) (.slice za m.length zc) m) := by
        have q := hO'.store j 255
        rw [hT'] at q
        refine ⟨q, hBr.setCell (p := ⟨g2, j, none⟩) hG.2 _, (Below.heap_setCell wr ⟨g2, j, none⟩ _ _ (by show w11.heap.size ≠ g2; omega)).trans hzr, hZr.kept (grown_set wr g2 j _) ?_⟩
        refine .inr (fun e => ?_)
        have := World.ownsRow.lt hZr g2 e
        omega
      have HM : Hid ((T'.set j 255).length = T.length) := by show (T'.set j 255).length = T.length; simpa using hT'
      unfold encB at k1
      generalize byteAt T' j = y at *
      clear hOr hO' hT' hBr hzr hG hZr
      go_wp2
      go_roundw
      case rel => exact ⟨j + 1, T'.set j 255, by go_num, by omega, HM.out, HF.out.1, HF.out.2.1, HF.out.2.2.1, HF.out.2.2.2⟩
      case measure => simp [intOf]; omega
    · have hlt' : (T.length : Int) ≤ (j : Int) := by omega
      have HFR : Hid (Below w.heap.size w wr) := HFN.out _ hBr
      obtain ⟨⟨q0, q1, q2⟩, -⟩ := cells3 (HX.out wr hBr)
      obtain ⟨⟨z0, z1, z2⟩, -⟩ := cells3 hzr
      have hxr := (hx0.below (hBr.mono hzW)).mono (show w.heap.size ≤ wr.heap.size by have := hBr.size; omega)
      clear hOr hT' hzr
      go_wp2_with (first
        | (go_at_call 13; refine (num_any _ _).mono ?_; rintro e w' ⟨rfl, hw⟩; subst w')
        | (go_at_call 33; refine (sameSnap_any _ _ _ _ _ _ _ _ _ _ wr.heap.size wr (hZr.sl (Nat.le_refl _)) hxr (Nat.le_refl _)).mono ?_; rintro e w13 ⟨rfl, hB13⟩; simp only [decide_true, BEq.rfl, Bool.and_self]))
      go_ret
      exact ⟨rfl, HFR.out.trans (hB13.mono HFR.out.size)⟩

set_option maxRecDepth 100000 in
set_option maxHeartbeats 8000000 in
theorem codecSnap_walk0 (i t : Int) (m : List UInt8) (a : Option Addr) (cap : Nat) (ab : Option Addr) (cb : Nat) (b : List UInt8) (w : World) (hb : Sl w.heap.size w (.slice ab b.length cb) b) (hx : Sl w.heap.size w (.slice a m.length cap) m) :
    Calls Try.prog 5 #[.agg #[.int .i64 i, .int .i64 t, .slice a m.length cap], .slice ab b.length cb] w fun e w' => e = .returned (.bool true) ∧ Below w.heap.size w w' := by
  obtain ⟨W0, hW0⟩ : ∃ W0, w.alloc (.cells #[.int .i64 i, .int .i64 t, .slice a m.length cap] 57) = W0 := ⟨_, rfl⟩
  have HW0 : Hid (w.alloc (.cells #[.int .i64 i, .int .i64 t, .slice a m.length cap] 57) = W0) := hW0
  have HBW : Hid (Below w.heap.size w W0) := by show Below w.heap.size w W0; rw [← hW0]; exact (Below.refl _ w).alloc (Nat.le_refl _) _
  have HX : Hid (∀ w', Below W0.heap.size W0 w' → w'.heap[w.heap.size]? = some (.cells #[.int .i64 i, .int .i64 t, .slice a m.length cap] 57 (0, 0))) := fun w' hB => by
    refine (hB.block _ (by rw [← hW0]; simp)).trans ?_
    rw [← hW0]; exact World.alloc_heap_new w _
  clear hW0
  by_cases hl0 : m.length ≤ 20000
  case neg =>
    have hd0 : decide ((m.length : Int) ≤ 20000) = false := by simp; omega
    go_enter Try.func5, Try.ntmps5
    go_wp2_with (go_at_call 9; rw [HW0.out]; refine (first_any _).mono ?_; rintro e w1 ⟨rfl, hB1⟩; obtain ⟨⟨q0, q1, q2⟩, -⟩ := cells3 (HX.out w1 hB1))
    go_ret
    exact ⟨rfl, HBW.out.trans (hB1.mono HBW.out.size)⟩
  by_cases hl1 : b.length ≤ 20000
  case neg =>
    have hd1 : decide ((b.length : Int) ≤ 20000) = false := by simp; omega
    have hd0 : decide ((m.length : Int) ≤ 20000) = true := by simp; omega
    go_enter Try.func5, Try.ntmps5
    go_wp2_with (go_at_call 9; rw [HW0.out]; refine (first_any _).mono ?_; rintro e w1 ⟨rfl, hB1⟩; obtain ⟨⟨q0, q1, q2⟩, -⟩ := cells3 (HX.out w1 hB1))
    go_ret
    exact ⟨rfl, HBW.out.trans (hB1.mono HBW.out.size)⟩
  exact codecSnap_walk1 i t m a cap ab cb b w hb hx hl1 hl0

theorem cellsOf3 : Try.prog.cellsOf 3 = 1 := by kernel_rfl
theorem cellsOf4 : Try.prog.cellsOf 4 = 1 := by kernel_rfl
theorem cellsOf9 : Try.prog.cellsOf 9 = 1 := by kernel_rfl
theorem cellsOf22 : Try.prog.cellsOf 22 = 1 := by kernel_rfl
theorem list3 {α : Type} {cs : List α} (h : cs.length = 3) : ∃ v0 v1 v2, cs = [v0, v1, v2] := by
  match cs, h with
  | [v0, v1, v2], _ => exact ⟨_, _, _, rfl⟩
theorem under57 : ∃ f0 f1 f2 : Field, Try.prog.underlying 57 = some (.struct #[f0, f1, f2]) ∧ (f0.offset = 0 ∧ f1.offset = 1 ∧ f2.offset = 2) ∧ f0.type = 3 ∧ f1.type = 3 ∧ f2.type = 22 := ⟨_, _, _, Try.underlying57, ⟨rfl, rfl, rfl⟩, rfl, rfl, rfl⟩
theorem cellsOf57 : Try.prog.cellsOf 57 = 3 := by kernel_rfl

/-- One that came in. -/
theorem inSnap {H : Type} {enc : TypeId × Value → H} {W : World} {n : Nat} {cs : List Value} {x : DataW H × List MemPlace} (hlen : cs.length = 3) (h : DataW.trod enc Try.prog W 0 (fun _ => true) true n 57 cs = some x) :
    ∃ (i : Int) (t : Int) (a : Option Addr) (cap : Nat) (m : List UInt8), cs = [.int .i64 i, .int .i64 t, .slice a m.length cap] ∧ Sl W.heap.size W (.slice a m.length cap) m := by
  obtain ⟨f0, f1, f2, hu, ⟨o0, o1, o2⟩, t0, t1, t2⟩ := under57
  obtain ⟨xs, k, _, _, _, hxl, hf⟩ := DataW.trod_struct hu h
  obtain ⟨v0, v1, v2, rfl⟩ := list3 hlen
  obtain ⟨y0, y1, y2, rfl⟩ := list3 hxl
  have g0 := hf 0 f0 rfl
  rw [o0, t0, cellsOf3] at g0
  have g1 := hf 1 f1 rfl
  rw [o1, t1, cellsOf3] at g1
  have g2 := hf 2 f2 rfl
  rw [o2, t2, cellsOf22] at g2
  simp at g0 g1 g2
  obtain ⟨z0, e0, -, -⟩ := DataW.trod_int Try.underlying3 g0
  simp at e0
  subst e0
  obtain ⟨z1, e1, -, -⟩ := DataW.trod_int Try.underlying3 g1
  simp at e1
  subst e1
  obtain ⟨a2, n2, k2, e2, zs, w2⟩ : ∃ a2 n2 k2, v2 = .slice a2 n2 k2 ∧ ∃ zs, IsRow .u8 W a2 n2 k2 zs := by
    rcases open_ints Try.underlying22 Try.underlying5 (by kernel_rfl) g2 with ⟨hcs, _⟩ | ⟨x, l, c, zs, hcs, _, hl, hm, hz, _, hcell, hwz⟩
    · simp at hcs
      exact ⟨none, 0, 0, hcs, [], .inl ⟨rfl, rfl, rfl, rfl⟩⟩
    · simp at hcs
      exact ⟨some x, l, c, hcs, zs, .inr ⟨_, rfl, hl, hm, by simpa using hz, hcell, hwz⟩⟩
  subst e2
  obtain ⟨l, hl, hs⟩ := isRow_sl w2
  subst hl
  exact ⟨z0, z1, a2, k2, l, rfl, hs⟩

set_option maxRecDepth 100000 in
theorem codecSnaps_lifted (os : Os) (started : os.Started) (H : Type) (enc : TypeId × Value → H) :
    ReturnsInHanded {} Try.checked os 5 .any (Rows.codecSnapsSpec.pre6 enc Try.prog Try.f5 Rows.codecSnapsRow.domain false) (Rows.codecSnapsSpec.post enc Try.prog Try.f5 false true false false) := by
  refine returnsInHanded_of_change (C := Try.checked) own started (by kernel_rfl) Try.func5
    (ChangeSpec.witness6 (enc := enc) (C := Try.checked) false ⟨#[], #[.agg #[.int .i64 0, .int .i64 0, .slice none 0 0], .slice none 0 0], []⟩ 8 (by kernel_rfl) (by kernel_rfl) (by kernel_rfl) (by kernel_rfl)) ?_
  intro W base args ds gs before hval0 hW hcnd _
  have hval : ∀ (j : Nat) t v, Try.f5.params[j]? = some t → args[j]? = some v → Value.okWide Try.prog W .any base t v := hval0
  have hW' := hW
  obtain ⟨p, q, hA0, hV, rfl, hfz, hnd⟩ := hW
  have hA : DataW.TrodAll enc Try.prog W 0 (fun _ => true) true Try.f5.params.toList args.toList ds p := hA0
  rw [Try.params5] at hA hval
  obtain ⟨v0, vs0, d0, ds0, p0, q0, hargs, rfl, rfl, h0, r0⟩ := trodAll_cons hA
  obtain ⟨v1, vs1, d1, ds1, p1, q1, rfl, rfl, rfl, h1, r1⟩ := trodAll_cons r0
  obtain ⟨rfl, rfl, rfl⟩ := trodAll_nil r1
  obtain rfl : args = #[v0, v1] := by cases args; simp_all
  obtain ⟨rfl, rfl⟩ := trodVars_none hV
  have k0 := h0
  have lt0 : ∀ x ∈ p0, x.block < W.heap.size := by obtain ⟨m, hm⟩ := k0; exact DataW.trod_lt m _ _ _ hm
  have k1 := h1
  have lt1 : ∀ x ∈ p1, x.block < W.heap.size := by obtain ⟨m, hm⟩ := k1; exact DataW.trod_lt m _ _ _ hm
  obtain ⟨cs0, rfl, hsz0⟩ := okWide_struct Try.underlying57 (hval 0 57 v0 rfl rfl)
  rw [cellsOf57] at hsz0
  obtain ⟨fuel0, hf0⟩ := h0
  obtain ⟨i, t, a, cap, m, hcs0, hx⟩ := inSnap (by simpa [Value.cells] using hsz0) hf0
  obtain rfl : cs0 = #[.int .i64 i, .int .i64 t, .slice a m.length cap] := by
    have := congrArg List.toArray hcs0
    simpa [Value.cells] using this
  obtain ⟨a1, len1, cap1, rfl⟩ := okWide_slice Try.underlying22 (hval 1 22 v1 rfl rfl)
  obtain ⟨z1, w1⟩ : ∃ zs, IsRow .u8 W a1 len1 cap1 zs := by
    obtain ⟨fuel, hf⟩ := h1
    rcases open_ints Try.underlying22 Try.underlying5 (by kernel_rfl) hf with ⟨hcs, _⟩ | ⟨x, l, c, zs, hcs, _, hl, hm, hz, _, hcell, hwz⟩
    · simp [Value.cells] at hcs
      obtain ⟨rfl, rfl, rfl⟩ := hcs
      exact ⟨[], .inl ⟨rfl, rfl, rfl, rfl⟩⟩
    · simp [Value.cells] at hcs
      obtain ⟨rfl, rfl, rfl⟩ := hcs
      exact ⟨zs, .inr ⟨_, rfl, hl, hm, by simpa using hz, hcell, hwz⟩⟩
  obtain ⟨b, rfl, hb⟩ := isRow_sl w1
  clear hA0 hval0
  refine (codecSnap_walk0 i t m a cap a1 cap1 b W hb hx).mono fun e W' ⟨he, bel⟩ => ?_
  subst he
  exact ⟨_, rfl, _, _, _, [], _, [], hW', trodAll_mk1 (shut_bool Try.underlying4 _), (trodAll_cons_mk (Below.trod laidOut (by kernel_rfl) (of_decide_eq_true (by kernel_rfl)) k0 bel lt0) (trodAll_cons_mk (Below.trod laidOut (by kernel_rfl) (of_decide_eq_true (by kernel_rfl)) k1 bel lt1) trodAll_mk0)), rfl, bel.frame _, fun h => by cases h⟩

theorem codecSnaps_holds : Rows.CodecSnapsSaid :=
  OpenClaim.holds_of_wide 5 Try.f5 rfl rfl rfl rfl rfl rfl rfl ⟨rfl, rfl, rfl, rfl, rfl⟩ rfl rfl rfl rfl rfl (by kernel_rfl) Try.func5 (by kernel_rfl)
    (of_decide_eq_true (by kernel_rfl)) (by unfold Func.isWrapper; first | (rw [if_pos (by decide +kernel)]; kernel_rfl) | (rw [if_neg (by decide +kernel)]; exact ⟨rfl, rfl⟩))
    (fun os started H enc _ => codecSnaps_lifted os started H enc)
#print axioms codecSnaps_holds
end Go.Proofs.Ytfnnbfgfmbiabaa
