/-
  RowMw.
-/
import Derived.Test.YtfnnbfgfmbiabaaJ48
/-
  CodecMessages: the walk of the law.
-/
namespace Go.Proofs.Ytfnnbfgfmbiabaa
open Go.RowKit Go.Shelf

set_option maxRecDepth 100000 in
set_option maxHeartbeats 8000000 in
theorem codecMsg_walk (m : Msg) (ab : Option Addr) (cb : Nat) (b : List UInt8) (w : World) (hb : Sl w.heap.size w (.slice ab b.length cb) b) (hx : m.At w.heap.size w) (hsx : m.sd.length ≤ 9223372036854775807) (hex : m.es.length ≤ 9223372036854775807) :
    Calls Try.prog 8 #[.agg #[.int .i64 m.kd, .int .i64 m.fr, .int .i64 m.to, .int .i64 m.tm, .int .i64 m.ix, .int .i64 m.lt, .int .i64 m.cm, .int .i64 m.hi, .int .i64 m.cx, .bool m.rj, .slice m.ea m.es.length m.ec, .int .i64 m.si, .int .i64 m.st, .slice m.sa m.sd.length m.sc], .slice ab b.length cb] w fun e w' => e = .returned (.bool true) ∧ Below w.heap.size w w' := by
  obtain ⟨W0, hW0⟩ : ∃ W0, w.alloc (.cells #[.int .i64 m.kd, .int .i64 m.fr, .int .i64 m.to, .int .i64 m.tm, .int .i64 m.ix, .int .i64 m.lt, .int .i64 m.cm, .int .i64 m.hi, .int .i64 m.cx, .bool m.rj, .slice m.ea m.es.length m.ec, .int .i64 m.si, .int .i64 m.st, .slice m.sa m.sd.length m.sc] 95) = W0 := ⟨_, rfl⟩
  have HW0 : Hid (w.alloc (.cells #[.int .i64 m.kd, .int .i64 m.fr, .int .i64 m.to, .int .i64 m.tm, .int .i64 m.ix, .int .i64 m.lt, .int .i64 m.cm, .int .i64 m.hi, .int .i64 m.cx, .bool m.rj, .slice m.ea m.es.length m.ec, .int .i64 m.si, .int .i64 m.st, .slice m.sa m.sd.length m.sc] 95) = W0) := hW0
  have HBW : Hid (Below w.heap.size w W0) := by show Below w.heap.size w W0; rw [← hW0]; exact (Below.refl _ w).alloc (Nat.le_refl _) _
  have HS0 : Hid (W0.heap.size = w.heap.size + 1) := by show W0.heap.size = _; rw [← hW0]; simp
  have HX : Hid (∀ w', Below W0.heap.size W0 w' → w'.heap[w.heap.size]? = some (.cells #[.int .i64 m.kd, .int .i64 m.fr, .int .i64 m.to, .int .i64 m.tm, .int .i64 m.ix, .int .i64 m.lt, .int .i64 m.cm, .int .i64 m.hi, .int .i64 m.cx, .bool m.rj, .slice m.ea m.es.length m.ec, .int .i64 m.si, .int .i64 m.st, .slice m.sa m.sd.length m.sc] 95 (0, 0))) := fun w' hB => by
    refine (hB.block _ (by have := HS0.out; omega)).trans ?_
    rw [← hW0]; exact World.alloc_heap_new w _
  have HLT : Hid (∀ w', Below W0.heap.size W0 w' → w.heap.size < w'.heap.size) := fun w' hB => by have := hB.size; have := HS0.out; omega
  have hb0 := hb.below HBW.out
  have hx0 := hx.below HBW.out
  clear hW0
  have hzW : w.heap.size ≤ W0.heap.size := HBW.out.size
  have HAT : Hid (∀ w', Below W0.heap.size W0 w' → m.At w.heap.size w') := fun w' hB => hx0.below (hB.mono hzW)
  have HFN : Hid (∀ w', Below W0.heap.size W0 w' → Below w.heap.size w w') := fun w' hB => HBW.out.trans (hB.mono hzW)
  go_enter Try.func8, Try.ntmps8
  go_wp2_with fail
  rw [HW0.out]
  refine (first_any _).mono ?_
  rintro e w1a ⟨rfl, hB1a⟩
  obtain ⟨⟨q0, q1, q2, q3, q4, q5, q6, q7, q8, q9, q10, q11, q12, q13⟩, -⟩ := cells14 (HX.out w1a hB1a)
  go_wp2_with fail
  refine (slightMsg_any m w.heap.size w1a (HAT.out w1a hB1a) (by have := HLT.out w1a hB1a; omega) hsx hex).mono ?_
  rintro e w1 ⟨⟨sb, rfl, hsb⟩, hB1s⟩
  have HB1 : Hid (Below W0.heap.size W0 w1) := hB1a.trans (hB1s.mono hB1a.size)
  clear hB1a hB1s
  cases sb with
  | false =>
    go_wp2
    go_ret
    exact ⟨rfl, HFN.out _ HB1.out⟩
  | true =>
  obtain ⟨hsd, hes⟩ := hsb rfl
  by_cases hl : b.length ≤ 20000
  case neg =>
    have hl1 : decide ((b.length : Int) ≤ 20000) = false := by simp; omega
    go_wp2
    go_ret
    exact ⟨rfl, HFN.out _ HB1.out⟩
  have hl1 : decide ((b.length : Int) ≤ 20000) = true := by simp; omega
  have hlt1 := HLT.out w1 HB1.out
  obtain ⟨⟨q0, q1, q2, q3, q4, q5, q6, q7, q8, q9, q10, q11, q12, q13⟩, -⟩ := cells14 (HX.out w1 HB1.out)
  go_wp2_with fail
  refine (putMsg_any m w.heap.size (w1.alloc (.cells #[] 97)) (HAT.out _ (HB1.out.alloc HB1.out.size _)) (by have := HLT.out w1 HB1.out; simp; omega)).mono ?_
  rintro e w2 ⟨v2, rfl, hO2, hB2⟩
  have HB2 : Hid (Below W0.heap.size W0 w2) := (HB1.out.alloc HB1.out.size _).trans (hB2.mono (by have := HB1.out.size; simp; omega))
  have HZ2 : Hid (w1.heap.size < w2.heap.size) := by have := hB2.size; show w1.heap.size < w2.heap.size; simp at this; omega
  have HC2 : Hid (∀ w', Below w2.heap.size w2 w' → w'.heap[w1.heap.size]? = some (.cells #[] 97 (0, 0))) := fun w' hB => (hB.block _ HZ2.out).trans ((hB2.block _ (by simp)).trans (World.alloc_heap_new w1 _))
  have rp2 := refPutMsg_any m w.heap.size w2 (HAT.out w2 HB2.out) (by have := HLT.out w2 HB2.out; omega) (by omega)
  have ckA := fun N w' h hN => chkMsg_any m N w' h hN
  have ckB := fun N w' h hN => refChkMsg_any m N w' h hN (by omega)
  have HTL : Hid ((if m.ck = 0 then m.tx else []).length ≤ 1000000) := by
    show (if m.ck = 0 then m.tx else []).length ≤ 1000000
    split
    · exact tx_len m (by assumption)
    · simp
  have HBK : Hid (m.ck = 0 → ∀ v M w', Sl M w' v (if m.ck = 0 then m.tx else []) → M ≤ w'.heap.size → Calls Try.prog 51 #[.agg #[], v] w' (GotM w' 0 m.says)) := fun hk v M w' hv hM => by
    rw [if_pos hk] at hv
    exact back_any m hk v M w' hv hM
  obtain ⟨T, HT⟩ : ∃ T, Hid ((if m.ck = 0 then m.tx else []) = T) := ⟨_, rfl⟩
  obtain ⟨E, HE⟩ : ∃ E, Hid (m.ck = E) := ⟨_, rfl⟩
  have HTL2 : Hid (T.length ≤ 1000000) := by have := HTL.out; rw [HT.out] at this; exact this
  rw [HT.out] at hO2 rp2
  rw [HT.out, HE.out] at HBK
  rw [HE.out] at rp2 ckA ckB ⊢
  obtain ⟨ta, tc, rfl, -, -⟩ := hO2.shape
  clear hB2 HTL
  have hlt2 := HLT.out w2 HB2.out
  obtain ⟨⟨q0, q1, q2, q3, q4, q5, q6, q7, q8, q9, q10, q11, q12, q13⟩, -⟩ := cells14 (HX.out w2 HB2.out)
  go_wp2_with fail
  refine rp2.mono ?_
  rintro e w3 ⟨v3, rfl, hS3, hB3⟩
  have HB3 : Hid (Below W0.heap.size W0 w3) := HB2.out.trans (hB3.mono HB2.out.size)
  have hB23 : Below w2.heap.size w2 w3 := hB3
  have hO3 := hO2.below hB3 (Nat.le_refl _)
  obtain ⟨xa, xc, rfl, -⟩ := id hS3
  clear hB3 rp2
  go_wp2_with fail
  refine (same_any _ _ _ T T w3 (hO3.sl (Nat.le_refl _)) hS3).mono ?_
  rintro e w4 ⟨rfl, n4, hw4⟩
  have HB4 : Hid (Below W0.heap.size W0 w4) := by show Below _ _ _; rw [hw4]; exact below_drewN HB3.out n4
  have HB24 : Hid (Below w2.heap.size w2 w4) := by show Below _ _ _; rw [hw4]; exact below_drewN hB23 n4
  have HO4 : Hid (Ow (w1.alloc (.cells #[] 97)).heap.size w4 (.slice ta T.length tc) T) := by show Ow _ _ _ _; rw [hw4]; exact hO3.below (below_drewN (Below.refl _ _) n4) (Nat.le_refl _)
  clear hw4 hO2 hO3 hS3 HB3 hB23
  simp only [decide_true]
  have hlt4 := HLT.out w4 HB4.out
  obtain ⟨⟨q0, q1, q2, q3, q4, q5, q6, q7, q8, q9, q10, q11, q12, q13⟩, -⟩ := cells14 (HX.out w4 HB4.out)
  have hc4 := HC2.out w4 HB24.out
  go_wp2_with fail
  go_region_held3 (fun w' => w'.cell? ⟨w.heap.size, 0, none⟩ = some (.int .i64 m.kd) ∧ w'.cell? ⟨w.heap.size, 1, none⟩ = some (.int .i64 m.fr) ∧ w'.cell? ⟨w.heap.size, 2, none⟩ = some (.int .i64 m.to) ∧ w'.cell? ⟨w.heap.size, 3, none⟩ = some (.int .i64 m.tm) ∧ w'.cell? ⟨w.heap.size, 4, none⟩ = some (.int .i64 m.ix) ∧ w'.cell? ⟨w.heap.size, 5, none⟩ = some (.int .i64 m.lt) ∧ w'.cell? ⟨w.heap.size, 6, none⟩ = some (.int .i64 m.cm) ∧ w'.cell? ⟨w.heap.size, 7, none⟩ = some (.int .i64 m.hi) ∧ w'.cell? ⟨w.heap.size, 8, none⟩ = some (.int .i64 m.cx) ∧ w'.cell? ⟨w.heap.size, 9, none⟩ = some (.bool m.rj) ∧ w'.cell? ⟨w.heap.size, 10, none⟩ = some (.slice m.ea m.es.length m.ec) ∧ w'.cell? ⟨w.heap.size, 11, none⟩ = some (.int .i64 m.si) ∧ w'.cell? ⟨w.heap.size, 12, none⟩ = some (.int .i64 m.st) ∧ w'.cell? ⟨w.heap.size, 13, none⟩ = some (.slice m.sa m.sd.length m.sc)) (go_keep)
    (first
      | (go_at_call 13; refine (num_any _ _).mono ?_; rintro e w' ⟨rfl, hw⟩; subst w')
      | (go_at_call 49; refine (ckA w.heap.size _ ?_ ?_).mono ?_; exact HAT.out _ (HB4.out.trans ⟨rfl, rfl, rfl, Nat.le_refl _, fun _ _ => rfl⟩); exact Nat.le_of_lt (HLT.out w4 HB4.out); rintro e w5 ⟨rfl, hB5⟩; have hB5x : Below w4.heap.size w4 w5 := ⟨hB5.os, hB5.tape, hB5.output, hB5.size, hB5.block⟩; obtain ⟨⟨q0, q1, q2, q3, q4, q5, q6, q7, q8, q9, q10, q11, q12, q13⟩, -⟩ := cells14 (HX.out w5 (HB4.out.trans (hB5x.mono HB4.out.size))))
      | (go_at_call 50; refine (ckB w.heap.size _ ?_ ?_).mono ?_; exact HAT.out _ ((HB4.out.trans (hB5x.mono HB4.out.size)).trans ⟨rfl, rfl, rfl, Nat.le_refl _, fun _ _ => rfl⟩); exact Nat.le_of_lt (HLT.out w5 (HB4.out.trans (hB5x.mono HB4.out.size))); rintro e w6 ⟨rfl, hB6⟩; have hB6x : Below w5.heap.size w5 w6 := ⟨hB6.os, hB6.tape, hB6.output, hB6.size, hB6.block⟩; obtain ⟨⟨q0, q1, q2, q3, q4, q5, q6, q7, q8, q9, q10, q11, q12, q13⟩, -⟩ := cells14 (HX.out w6 ((HB4.out.trans (hB5x.mono HB4.out.size)).trans (hB6x.mono (HB4.out.trans (hB5x.mono HB4.out.size)).size)))))
  have HB56 : Hid (Below w4.heap.size w4 w6) := hB5x.trans (hB6x.mono hB5x.size)
  have HB6 : Hid (Below W0.heap.size W0 w6) := HB4.out.trans (HB56.out.mono HB4.out.size)
  have HB26 : Hid (Below w2.heap.size w2 w6) := HB24.out.trans (HB56.out.mono HB24.out.size)
  have HO6 : Hid (Ow (w1.alloc (.cells #[] 97)).heap.size w6 (.slice ta T.length tc) T) := HO4.out.below HB56.out (Nat.le_refl _)
  have hc6 := HC2.out w6 HB26.out
  clear hB5 hB5x hB6 hB6x HO4 HB56 hc4
  have hlt6 := HLT.out w6 HB6.out
  have hb6 := hb0.below (HB6.out.mono hzW)
  obtain ⟨G, g, HGC, HGD, HGL0⟩ := get_both b hl
  go_wp2_with fail
  refine (lent_any w.heap.size _ b w6 hb6 (by omega) hl).mono ?_
  rintro e w7 ⟨gl, gc, rfl, hO7, hB7⟩
  have HB7 : Hid (Below W0.heap.size W0 w7) := HB6.out.trans (hB7.mono HB6.out.size)
  have HB27 : Hid (Below w2.heap.size w2 w7) := HB26.out.trans (hB7.mono HB26.out.size)
  have HO7 : Hid (Ow (w1.alloc (.cells #[] 97)).heap.size w7 (.slice ta T.length tc) T) := HO6.out.below hB7 (Nat.le_refl _)
  have hc7 := HC2.out w7 HB27.out
  clear hB7 HO6 hc6
  go_wp2_with fail
  refine (HGC.out _ w7.heap.size w7 (hO7.lent (Nat.le_refl _)) (Nat.le_refl _)).mono ?_
  rintro e w8 ⟨my, rfl, hmy, hY8, hB8⟩
  unfold Msg.v
  have HB8 : Hid (Below W0.heap.size W0 w8) := HB7.out.trans (hB8.mono HB7.out.size)
  have HB28 : Hid (Below w2.heap.size w2 w8) := HB27.out.trans (hB8.mono HB27.out.size)
  have HO8 : Hid (Ow (w1.alloc (.cells #[] 97)).heap.size w8 (.slice ta T.length tc) T) := HO7.out.below hB8 (Nat.le_refl _)
  have hL8 := hO7.below hB8 (Nat.le_refl _)
  clear hB8 hc7 hO7 HO7
  go_wp2_with fail
  obtain ⟨Wy, hWy⟩ : ∃ Wy, w8.alloc (.cells #[.int .i64 my.kd, .int .i64 my.fr, .int .i64 my.to, .int .i64 my.tm, .int .i64 my.ix, .int .i64 my.lt, .int .i64 my.cm, .int .i64 my.hi, .int .i64 my.cx, .bool my.rj, .slice my.ea my.es.length my.ec, .int .i64 my.si, .int .i64 my.st, .slice my.sa my.sd.length my.sc] 95) = Wy := ⟨_, rfl⟩
  rw [hWy]
  have HY : Hid (∀ w', Below Wy.heap.size Wy w' → w'.heap[w8.heap.size]? = some (.cells #[.int .i64 my.kd, .int .i64 my.fr, .int .i64 my.to, .int .i64 my.tm, .int .i64 my.ix, .int .i64 my.lt, .int .i64 my.cm, .int .i64 my.hi, .int .i64 my.cx, .bool my.rj, .slice my.ea my.es.length my.ec, .int .i64 my.si, .int .i64 my.st, .slice my.sa my.sd.length my.sc] 95 (0, 0))) := fun w' hB => by
    refine (hB.block _ (by rw [← hWy]; simp)).trans ?_
    rw [← hWy]; exact World.alloc_heap_new w8 _
  have hBy : Below w8.heap.size w8 Wy := by rw [← hWy]; exact (Below.refl _ _).alloc (Nat.le_refl _) _
  have HZy : Hid (w8.heap.size < Wy.heap.size) := by show w8.heap.size < Wy.heap.size; rw [← hWy]; simp
  clear hWy
  have HBy : Hid (Below W0.heap.size W0 Wy) := HB8.out.trans (hBy.mono HB8.out.size)
  have HB2y : Hid (Below w2.heap.size w2 Wy) := HB28.out.trans (hBy.mono HB28.out.size)
  have HOy : Hid (Ow (w1.alloc (.cells #[] 97)).heap.size Wy (.slice ta T.length tc) T) := HO8.out.below hBy (Nat.le_refl _)
  have hLy := hL8.below hBy (Nat.le_refl _)
  have hby := hb0.below (HBy.out.mono hzW)
  refine (HGD.out _ w.heap.size Wy hby (by have := HLT.out Wy HBy.out; omega)).mono ?_
  rintro e w9 ⟨mv, rfl, hmv, hV9, hB9⟩
  unfold Msg.v
  have HB9 : Hid (Below W0.heap.size W0 w9) := HBy.out.trans (hB9.mono HBy.out.size)
  have HB29 : Hid (Below w2.heap.size w2 w9) := HB2y.out.trans (hB9.mono HB2y.out.size)
  have HBy9 : Hid (Below Wy.heap.size Wy w9) := hB9
  have HO9 : Hid (Ow (w1.alloc (.cells #[] 97)).heap.size w9 (.slice ta T.length tc) T) := HOy.out.below hB9 (Nat.le_refl _)
  have hL9 := hLy.below hB9 (Nat.le_refl _)
  clear hB9 HO8 HOy hL8 hLy hby
  go_wp2_with fail
  obtain ⟨Wv, hWv⟩ : ∃ Wv, w9.alloc (.cells #[.int .i64 mv.kd, .int .i64 mv.fr, .int .i64 mv.to, .int .i64 mv.tm, .int .i64 mv.ix, .int .i64 mv.lt, .int .i64 mv.cm, .int .i64 mv.hi, .int .i64 mv.cx, .bool mv.rj, .slice mv.ea mv.es.length mv.ec, .int .i64 mv.si, .int .i64 mv.st, .slice mv.sa mv.sd.length mv.sc] 95) = Wv := ⟨_, rfl⟩
  rw [hWv]
  have HV : Hid (∀ w', Below Wv.heap.size Wv w' → w'.heap[w9.heap.size]? = some (.cells #[.int .i64 mv.kd, .int .i64 mv.fr, .int .i64 mv.to, .int .i64 mv.tm, .int .i64 mv.ix, .int .i64 mv.lt, .int .i64 mv.cm, .int .i64 mv.hi, .int .i64 mv.cx, .bool mv.rj, .slice mv.ea mv.es.length mv.ec, .int .i64 mv.si, .int .i64 mv.st, .slice mv.sa mv.sd.length mv.sc] 95 (0, 0))) := fun w' hB => by
    refine (hB.block _ (by rw [← hWv]; simp)).trans ?_
    rw [← hWv]; exact World.alloc_heap_new w9 _
  have hBv : Below w9.heap.size w9 Wv := by rw [← hWv]; exact (Below.refl _ _).alloc (Nat.le_refl _) _
  have HZv : Hid (w9.heap.size < Wv.heap.size) := by show w9.heap.size < Wv.heap.size; rw [← hWv]; simp
  clear hWv
  have HBv : Hid (Below W0.heap.size W0 Wv) := HB9.out.trans (hBv.mono HB9.out.size)
  have HB2v : Hid (Below w2.heap.size w2 Wv) := HB29.out.trans (hBv.mono HB29.out.size)
  have HByv : Hid (Below Wy.heap.size Wy Wv) := HBy9.out.trans (hBv.mono HBy9.out.size)
  have HOv : Hid (Ow (w1.alloc (.cells #[] 97)).heap.size Wv (.slice ta T.length tc) T) := HO9.out.below hBv (Nat.le_refl _)
  have hLv := hL9.below hBv (Nat.le_refl _)
  have hbv := hb0.below (HBv.out.mono hzW)
  refine (kept_any _ gl gc _ b Wv hl hLv (hbv.mono (by have := HLT.out Wv HBv.out; omega))).mono ?_
  rintro e w10 ⟨rfl, n10, hw10⟩
  have hB10 : Below Wv.heap.size Wv w10 := by rw [hw10]; exact below_drewN (Below.refl _ _) n10
  have hy10 := HY.out w10 (HByv.out.trans (hB10.mono HByv.out.size))
  have hv10 := HV.out w10 hB10
  obtain ⟨⟨y0, y1, y2, y3, y4, y5, y6, y7, y8, y9, y10, y11, y12, y13⟩, -⟩ := cells14 hy10
  obtain ⟨⟨v0, v1, v2, v3, v4, v5, v6, v7, v8, v9, v10, v11, v12, v13⟩, -⟩ := cells14 hv10
  clear hw10
  have HYs : Hid (my.At w10.heap.size w10) := (((hY8.below hBy).below HByv.out).below hB10).at
  have HVs : Hid (mv.At w10.heap.size w10) := ((hV9.below hBv).below hB10).at
  have HYV : Hid (my.says = mv.says) := hmy.trans hmv.symm
  have HYL : Hid (my.es.length ≤ 1000000) := got_few HGL0.out hmy
  clear hY8 hV9 hmy hmv
  go_wp2_with fail
  refine (sameMsgs_any my mv w10.heap.size w10 HYs.out HVs.out (Nat.le_refl _) HYL.out).mono ?_
  clear y0 y1 y2 y3 y4 y5 y6 y7 y8 y9 y10 y11 y12 y13 v0 v1 v2 v3 v4 v5 v6 v7 v8 v9 v10 v11 v12 v13 hy10 hv10
  have hB10a := hB10
  clear hB10
  rintro e w10b ⟨t10, rfl, ht10, hB10b⟩
  obtain rfl : t10 = true := ht10.2 HYV.out
  clear ht10
  have hB10 : Below Wv.heap.size Wv w10b := hB10a.trans (hB10b.mono hB10a.size)
  clear hB10a hB10b HYs HVs
  generalize w10b = w10 at *
  have HB10 : Hid (Below W0.heap.size W0 w10) := HBv.out.trans (hB10.mono HBv.out.size)
  have HB210 : Hid (Below w2.heap.size w2 w10) := HB2v.out.trans (hB10.mono HB2v.out.size)
  have HO10 : Hid (Ow (w1.alloc (.cells #[] 97)).heap.size w10 (.slice ta T.length tc) T) := HOv.out.below hB10 (Nat.le_refl _)
  have hc10 := HC2.out w10 HB210.out
  clear hLv hbv HO9 HOv hL9 hBy hBv
  have hlt10 := HLT.out w10 HB10.out
  obtain ⟨⟨q0, q1, q2, q3, q4, q5, q6, q7, q8, q9, q10, q11, q12, q13⟩, -⟩ := cells14 (HX.out w10 HB10.out)
  by_cases hE0 : E = 0
  case neg =>
    have hke : ((E : Int) != 0) = true := by simp; omega
    go_wp2_with (go_at_call 13; refine (num_any _ _).mono ?_; rintro e w' ⟨rfl, hw⟩; subst w')
    go_ret
    exact ⟨rfl, HFN.out _ HB10.out⟩
  subst hE0
  have HBK2 := HBK.out rfl
  have HBK3 : Hid (∀ v M w', Sl M w' v T → M ≤ w'.heap.size → Calls Try.prog 51 #[.agg #[], v] w' (GotM w' 0 m.says)) := HBK2
  clear HBK2 HBK
  have HGL : Hid (∀ g2, ta = some ⟨g2, 0, none⟩ → g2 < w10.heap.size ∧ W0.heap.size ≤ g2) := fun g2 e => by
    have := World.ownsRow.lt HO10.out g2 (by rw [e]; rfl)
    have h1 := HB1.out.size
    simp only [World.size_alloc] at this
    exact ⟨this.2, by omega⟩
  go_wp2_with (go_at_call 13; refine (num_any _ _).mono ?_; rintro e w' ⟨rfl, hw⟩; subst w')
  refine (HBK3.out _ w10.heap.size w10 (HO10.out.sl (Nat.le_refl _)) (Nat.le_refl _)).mono ?_
  rintro e w11 ⟨mz, rfl, hmz, hZ11, hB11⟩
  unfold Msg.v
  have HZX : Hid (mz.says = m.says) := hmz
  have HZL : Hid (mz.es.length ≤ 1000000) := by
    have : mz.es.length = m.es.length := says_len hmz
    show mz.es.length ≤ 1000000
    omega
  clear hmz
  have HB11 : Hid (Below W0.heap.size W0 w11) := HB10.out.trans (hB11.mono HB10.out.size)
  have HO11 : Hid (Ow (w1.alloc (.cells #[] 97)).heap.size w11 (.slice ta T.length tc) T) := HO10.out.below hB11 (Nat.le_refl _)
  have hz11 := hB11.size
  clear hB11 HO10 hc10
  have hlt11 := HLT.out w11 HB11.out
  obtain ⟨⟨q0, q1, q2, q3, q4, q5, q6, q7, q8, q9, q10, q11, q12, q13⟩, -⟩ := cells14 (HX.out w11 HB11.out)
  go_wp2_with fail
  have hcap : T.length ≤ tc ∧ tc ≤ maxLen := by
    obtain ⟨a', c', e', h1, h2⟩ := HO11.out.shape
    cases e'
    exact ⟨h1, h2⟩
  unfold maxLen at hcap
  obtain ⟨hcap1, hcap2⟩ := hcap
  obtain ⟨Wz, hWz⟩ : ∃ Wz, w11.alloc (.cells #[.int .i64 mz.kd, .int .i64 mz.fr, .int .i64 mz.to, .int .i64 mz.tm, .int .i64 mz.ix, .int .i64 mz.lt, .int .i64 mz.cm, .int .i64 mz.hi, .int .i64 mz.cx, .bool mz.rj, .slice mz.ea mz.es.length mz.ec, .int .i64 mz.si, .int .i64 mz.st, .slice mz.sa mz.sd.length mz.sc] 95) = Wz := ⟨_, rfl⟩
  rw [hWz]
  have hBz : Below w11.heap.size w11 Wz := by rw [← hWz]; exact (Below.refl _ _).alloc (Nat.le_refl _) _
  have hz0 : Wz.heap[w11.heap.size]? = some (.cells #[.int .i64 mz.kd, .int .i64 mz.fr, .int .i64 mz.to, .int .i64 mz.tm, .int .i64 mz.ix, .int .i64 mz.lt, .int .i64 mz.cm, .int .i64 mz.hi, .int .i64 mz.cx, .bool mz.rj, .slice mz.ea mz.es.length mz.ec, .int .i64 mz.si, .int .i64 mz.st, .slice mz.sa mz.sd.length mz.sc] 95 (0, 0)) := by rw [← hWz]; exact World.alloc_heap_new w11 _
  have hBW0 : Below W0.heap.size W0 Wz := HB11.out.trans (hBz.mono HB11.out.size)
  have hOz := HO11.out.below hBz (Nat.le_refl _)
  have hZ0 := hZ11.below hBz
  have HTLn : Hid (T.length ≤ 1000000) := HTL2.out
  clear hWz hBz HO11 hZ11
  obtain ⟨⟨q0, q1, q2, q3, q4, q5, q6, q7, q8, q9, q10, q11, q12, q13⟩, -⟩ := cells14 (HX.out Wz hBW0)
  obtain ⟨⟨z0, z1, z2, z3, z4, z5, z6, z7, z8, z9, z10, z11, z12, z13⟩, -⟩ := cells14 hz0
  have HXz : Hid (m.At Wz.heap.size Wz) := (HAT.out Wz hBW0).mono (by have := HLT.out Wz hBW0; omega)
  go_wp2_with fail
  refine (sameMsgs_any mz m Wz.heap.size Wz hZ0.at HXz.out (Nat.le_refl _) HZL.out).mono ?_
  rintro e w12 ⟨t12, rfl, ht12, hB12⟩
  obtain rfl : t12 = true := ht12.2 HZX.out
  clear ht12
  replace hz0 := (hB12.block _ (Array.getElem?_eq_some_iff.1 hz0).1).trans hz0
  replace hBW0 := hBW0.trans (hB12.mono hBW0.size)
  replace hOz := hOz.below hB12 (Nat.le_refl _)
  replace hZ0 := hZ0.below hB12
  clear hB12 HXz z0 z1 z2 z3 z4 z5 z6 z7 z8 z9 z10 z11 z12 z13
  go_wp2_with fail
  go_loopw [23] (fun ii wr => ∃ (j : Nat) (T' : List UInt8), ii = .int .i64 (j : Int) ∧ j ≤ T.length ∧ T'.length = T.length ∧ Ow (w1.alloc (.cells #[] 97)).heap.size wr (.slice ta T.length tc) T' ∧ Below W0.heap.size W0 wr ∧ wr.heap[w11.heap.size]? = some (.cells #[.int .i64 mz.kd, .int .i64 mz.fr, .int .i64 mz.to, .int .i64 mz.tm, .int .i64 mz.ix, .int .i64 mz.lt, .int .i64 mz.cm, .int .i64 mz.hi, .int .i64 mz.cx, .bool mz.rj, .slice mz.ea mz.es.length mz.ec, .int .i64 mz.si, .int .i64 mz.st, .slice mz.sa mz.sd.length mz.sc] 95 (0, 0)) ∧ mz.Own w10.heap.size wr) (fun ii _ => T.length - (intOf ii).toNat)
  case atStart => exact ⟨0, T, rfl, Nat.zero_le _, rfl, hOz, hBW0, hz0, hZ0⟩
  case round =>
    clear hOz hBW0 hz0 hZ0
    obtain ⟨j, T', rfl, hj, hT', hOr, hBr, hzr, hZr⟩ := hrel
    by_cases hjl : j < T.length
    · obtain ⟨g2, hta, hgl2, -, -, -⟩ := Ow.at0 (l := T') (by rw [hT']; exact hOr) (by omega)
      subst hta
      have hG := HGL.out g2 rfl
      have hO' : Ow (w1.alloc (.cells #[] 97)).heap.size wr (.slice (some ⟨g2, 0, none⟩) T'.length tc) T' := by rw [hT']; exact hOr
      obtain ⟨k1, k2, k3⟩ := hO'.can j (by omega)
      have HF : Hid (Ow (w1.alloc (.cells #[] 97)).heap.size (wr.setCell ⟨g2, j, none⟩ (.int .u8 255)) (.slice (some ⟨g2, 0, none⟩) T.length tc) (T'.set j 255) ∧ Below W0.heap.size W0 (wr.setCell ⟨g2, j, none⟩ (.int .u8 255)) ∧ (wr.setCell ⟨g2, j, none⟩ (.int .u8 255)).heap[w11.heap.size]? = some (.cells #[.int .i64 mz.kd, .int .i64 mz.fr, .int .i64 mz.to, .int .i64 mz.tm, .int .i64 mz.ix, .int .i64 mz.lt, .int .i64 mz.cm, .int .i64 mz.hi, .int .i64 mz.cx, .bool mz.rj, .slice mz.ea mz.es.length mz.ec, .int .i64 mz.si, .int .i64 mz.st, .slice mz.sa mz.sd.length mz.sc] 95 (0, 0)) ∧ mz.Own w10.heap.size (wr.setCell ⟨g2, j, none⟩ (.int .u8 255))) := by
        have qq := hO'.store j 255
        rw [hT'] at qq
        exact ⟨qq, hBr.setCell (p := ⟨g2, j, none⟩) hG.2 _, (Below.heap_setCell wr ⟨g2, j, none⟩ _ _ (by show w11.heap.size ≠ g2; omega)).trans hzr, hZr.set hG.1 j _⟩
      have HM : Hid ((T'.set j 255).length = T.length) := by show (T'.set j 255).length = T.length; simpa using hT'
      unfold encB at k1
      generalize byteAt T' j = y at *
      clear hOr hO' hT' hBr hzr hG hZr
      go_wp2
      go_roundw
      case rel => exact ⟨j + 1, T'.set j 255, by go_num, by omega, HM.out, HF.out.1, HF.out.2.1, HF.out.2.2.1, HF.out.2.2.2⟩
      case measure => simp [intOf]; omega
    · have hlt' : (T.length : Int) ≤ (j : Int) := by omega
      have HFR : Hid (Below w.heap.size w wr) := HFN.out _ hBr
      have HXr : Hid (m.At wr.heap.size wr) := (HAT.out wr hBr).mono (by have := HLT.out wr hBr; omega)
      obtain ⟨⟨q0, q1, q2, q3, q4, q5, q6, q7, q8, q9, q10, q11, q12, q13⟩, -⟩ := cells14 (HX.out wr hBr)
      obtain ⟨⟨z0, z1, z2, z3, z4, z5, z6, z7, z8, z9, z10, z11, z12, z13⟩, -⟩ := cells14 hzr
      clear hOr hT' hzr
      go_wp2_with (first
        | (go_at_call 13; refine (num_any _ _).mono ?_; rintro e w' ⟨rfl, hw⟩; subst w')
        | (go_at_call 53; refine (sameMsgs_any mz m wr.heap.size wr hZr.at HXr.out (Nat.le_refl _) HZL.out).mono ?_; rintro e w13 ⟨t13, rfl, ht13, hB13⟩; obtain rfl : t13 = true := ht13.2 HZX.out; clear ht13))
      go_ret
      exact ⟨rfl, HFR.out.trans (hB13.mono HFR.out.size)⟩
end Go.Proofs.Ytfnnbfgfmbiabaa

