/-
  CodecBack: the walk of the law.
-/
import Derived.Test.YtfnnbfgfmbiababJ45
import Derived.Test.YtfnnbfgfmbiababJ23
import Derived.Test.YtfnnbfgfmbiababJ05
namespace Go.Proofs.Ytfnnbfgfmbiabab
open Go.RowKit Go.Shelf

theorem says_len {m n : Msg} (h : m.says = n.says) : m.es.length = n.es.length := by
  have := congrArg (fun x => x.2.2.1.length) h
  simpa [Msg.says, saysOf] using this
theorem got_few {m : Msg} {G : Said} (hG : G.2.2.1.length ≤ 1000000) (h : m.says = G) : m.es.length ≤ 1000000 := by
  have := congrArg (fun x => x.2.2.1.length) h
  simp [Msg.says, saysOf] at this
  omega

set_option maxRecDepth 100000 in
set_option maxHeartbeats 8000000 in
theorem codecBack_walk (m : Msg) (ab : Option Addr) (cb : Nat) (b : List UInt8) (w : World) (hb : Sl w.heap.size w (.slice ab b.length cb) b) (hx : m.At w.heap.size w) (hsx : m.sd.length ≤ 9223372036854775807) (hex : m.es.length ≤ 9223372036854775807) :
    Calls Try.prog 5 #[.agg #[.int .i64 m.kd, .int .i64 m.fr, .int .i64 m.to, .int .i64 m.tm, .int .i64 m.ix, .int .i64 m.lt, .int .i64 m.cm, .int .i64 m.hi, .int .i64 m.cx, .bool m.rj, .slice m.ea m.es.length m.ec, .int .i64 m.si, .int .i64 m.st, .slice m.sa m.sd.length m.sc], .slice ab b.length cb] w fun e w' => e = .returned (.bool true) ∧ Below w.heap.size w w' := by
  obtain ⟨W0, hW0⟩ : ∃ W0, w.alloc (.cells #[.int .i64 m.kd, .int .i64 m.fr, .int .i64 m.to, .int .i64 m.tm, .int .i64 m.ix, .int .i64 m.lt, .int .i64 m.cm, .int .i64 m.hi, .int .i64 m.cx, .bool m.rj, .slice m.ea m.es.length m.ec, .int .i64 m.si, .int .i64 m.st, .slice m.sa m.sd.length m.sc] 49) = W0 := ⟨_, rfl⟩
  have HW0 : Hid (w.alloc (.cells #[.int .i64 m.kd, .int .i64 m.fr, .int .i64 m.to, .int .i64 m.tm, .int .i64 m.ix, .int .i64 m.lt, .int .i64 m.cm, .int .i64 m.hi, .int .i64 m.cx, .bool m.rj, .slice m.ea m.es.length m.ec, .int .i64 m.si, .int .i64 m.st, .slice m.sa m.sd.length m.sc] 49) = W0) := hW0
  have HBW : Hid (Below w.heap.size w W0) := by show Below w.heap.size w W0; rw [← hW0]; exact (Below.refl _ w).alloc (Nat.le_refl _) _
  have HS0 : Hid (W0.heap.size = w.heap.size + 1) := by show W0.heap.size = _; rw [← hW0]; simp
  have HX : Hid (∀ w', Below W0.heap.size W0 w' → w'.heap[w.heap.size]? = some (.cells #[.int .i64 m.kd, .int .i64 m.fr, .int .i64 m.to, .int .i64 m.tm, .int .i64 m.ix, .int .i64 m.lt, .int .i64 m.cm, .int .i64 m.hi, .int .i64 m.cx, .bool m.rj, .slice m.ea m.es.length m.ec, .int .i64 m.si, .int .i64 m.st, .slice m.sa m.sd.length m.sc] 49 (0, 0))) := fun w' hB => by
    refine (hB.block _ (by have := HS0.out; omega)).trans ?_
    rw [← hW0]; exact World.alloc_heap_new w _
  have HLT : Hid (∀ w', Below W0.heap.size W0 w' → w.heap.size < w'.heap.size) := fun w' hB => by have := hB.size; have := HS0.out; omega
  have hzW : w.heap.size ≤ W0.heap.size := HBW.out.size
  have HBB : Hid (∀ w', Below W0.heap.size W0 w' → Sl w.heap.size w' (.slice ab b.length cb) b) := fun w' hB => (hb.below HBW.out).below (hB.mono hzW)
  have HAT : Hid (∀ w', Below W0.heap.size W0 w' → m.At w.heap.size w') := fun w' hB => (hx.below HBW.out).below (hB.mono hzW)
  have HFN : Hid (∀ w', Below W0.heap.size W0 w' → Below w.heap.size w w') := fun w' hB => HBW.out.trans (hB.mono hzW)
  clear hW0 hb hx
  go_enter Try.func5, Try.ntmps5
  go_wp2_with fail
  rw [HW0.out]
  refine (first_any _).mono ?_
  rintro e w1a ⟨rfl, hB1a⟩
  obtain ⟨⟨q0, q1, q2, q3, q4, q5, q6, q7, q8, q9, q10, q11, q12, q13⟩, -⟩ := cells14 (HX.out w1a hB1a)
  go_wp2_with fail
  refine (slightMsg_any m w.heap.size w1a (HAT.out w1a hB1a) (by have := HLT.out w1a hB1a; omega) hsx hex).mono ?_
  rintro e w1 ⟨⟨sb, rfl, hsb⟩, hB1s⟩
  have HB1 : Hid (Below W0.heap.size W0 w1) := hB1a.trans (hB1s.mono hB1a.size)
  clear hB1a hB1s
  cases sb with
  | false =>
    go_wp2
    go_ret
    exact ⟨rfl, HFN.out _ HB1.out⟩
  | true =>
  obtain ⟨hsd, hes⟩ := hsb rfl
  by_cases hl : b.length ≤ 20000
  case neg =>
    have hl1 : decide ((b.length : Int) ≤ 20000) = false := by simp; omega
    go_wp2
    go_ret
    exact ⟨rfl, HFN.out _ HB1.out⟩
  have hl1 : decide ((b.length : Int) ≤ 20000) = true := by simp; omega
  have hlt1 := HLT.out w1 HB1.out
  obtain ⟨⟨q0, q1, q2, q3, q4, q5, q6, q7, q8, q9, q10, q11, q12, q13⟩, -⟩ := cells14 (HX.out w1 HB1.out)
  go_wp2_with fail
  refine (putMsg_any m w.heap.size (w1.alloc (.cells #[] 60)) (HAT.out _ (HB1.out.alloc HB1.out.size _)) (by have := HLT.out w1 HB1.out; simp; omega)).mono ?_
  rintro e w2 ⟨v2, rfl, hO2, hB2⟩
  have HB2 : Hid (Below W0.heap.size W0 w2) := (HB1.out.alloc HB1.out.size _).trans (hB2.mono (by have := HB1.out.size; simp; omega))
  have HZ2 : Hid (w1.heap.size < w2.heap.size) := by have := hB2.size; show w1.heap.size < w2.heap.size; simp at this; omega
  have HC2 : Hid (∀ w', Below w2.heap.size w2 w' → w'.heap[w1.heap.size]? = some (.cells #[] 60 (0, 0))) := fun w' hB => (hB.block _ HZ2.out).trans ((hB2.block _ (by simp)).trans (World.alloc_heap_new w1 _))
  have ckA := fun N w' h hN => chkMsg_any m N w' h hN
  have HBK : Hid (m.ck = 0 → (∀ v M w', Sl M w' v (if m.ck = 0 then m.tx else []) → M ≤ w'.heap.size → Calls Try.prog 25 #[.agg #[], v] w' (GotM w' 0 m.says)) ∧ ∀ n : Msg, n.says = m.says → n.ck = 0 ∧ n.tx = (if m.ck = 0 then m.tx else [])) := fun hk => ⟨fun v M w' hv hM => by
    rw [if_pos hk] at hv
    exact back_any m hk v M w' hv hM, fun n hn => by rw [if_pos hk]; exact ⟨(of_says hn).1.trans hk, (of_says hn).2⟩⟩
  obtain ⟨T, HT⟩ : ∃ T, Hid ((if m.ck = 0 then m.tx else []) = T) := ⟨_, rfl⟩
  obtain ⟨E, HE⟩ : ∃ E, Hid (m.ck = E) := ⟨_, rfl⟩
  rw [HT.out] at hO2
  rw [HT.out, HE.out] at HBK
  rw [HE.out] at ckA ⊢
  obtain ⟨ta, tc, rfl, -, -⟩ := hO2.shape
  have HO2 : Hid (Ow (w1.alloc (.cells #[] 60)).heap.size w2 (.slice ta T.length tc) T) := hO2
  clear hB2 hO2
  have hlt2 := HLT.out w2 HB2.out
  obtain ⟨⟨q0, q1, q2, q3, q4, q5, q6, q7, q8, q9, q10, q11, q12, q13⟩, -⟩ := cells14 (HX.out w2 HB2.out)
  have hc2 := HC2.out w2 (Below.refl _ _)
  go_wp2_with fail
  go_region_held3 (fun w' => w'.cell? ⟨w.heap.size, 0, none⟩ = some (.int .i64 m.kd) ∧ w'.cell? ⟨w.heap.size, 1, none⟩ = some (.int .i64 m.fr) ∧ w'.cell? ⟨w.heap.size, 2, none⟩ = some (.int .i64 m.to) ∧ w'.cell? ⟨w.heap.size, 3, none⟩ = some (.int .i64 m.tm) ∧ w'.cell? ⟨w.heap.size, 4, none⟩ = some (.int .i64 m.ix) ∧ w'.cell? ⟨w.heap.size, 5, none⟩ = some (.int .i64 m.lt) ∧ w'.cell? ⟨w.heap.size, 6, none⟩ = some (.int .i64 m.cm) ∧ w'.cell? ⟨w.heap.size, 7, none⟩ = some (.int .i64 m.hi) ∧ w'.cell? ⟨w.heap.size, 8, none⟩ = some (.int .i64 m.cx) ∧ w'.cell? ⟨w.heap.size, 9, none⟩ = some (.bool m.rj) ∧ w'.cell? ⟨w.heap.size, 10, none⟩ = some (.slice m.ea m.es.length m.ec) ∧ w'.cell? ⟨w.heap.size, 11, none⟩ = some (.int .i64 m.si) ∧ w'.cell? ⟨w.heap.size, 12, none⟩ = some (.int .i64 m.st) ∧ w'.cell? ⟨w.heap.size, 13, none⟩ = some (.slice m.sa m.sd.length m.sc)) (go_keep)
    (first
      | (go_at_call 13; refine (num_any _ _).mono ?_; rintro e w' ⟨rfl, hw⟩; subst w')
      | (go_at_call 24; refine (ckA w.heap.size _ ?_ ?_).mono ?_; exact HAT.out _ (HB2.out.trans ⟨rfl, rfl, rfl, Nat.le_refl _, fun _ _ => rfl⟩); exact Nat.le_of_lt (HLT.out w2 HB2.out); rintro e w3 ⟨rfl, hB3⟩; have hB3x : Below w2.heap.size w2 w3 := ⟨hB3.os, hB3.tape, hB3.output, hB3.size, hB3.block⟩; obtain ⟨⟨q0, q1, q2, q3, q4, q5, q6, q7, q8, q9, q10, q11, q12, q13⟩, -⟩ := cells14 (HX.out w3 (HB2.out.trans (hB3x.mono HB2.out.size)))))
  have HB23 : Hid (Below w2.heap.size w2 w3) := hB3x
  have HB3 : Hid (Below W0.heap.size W0 w3) := HB2.out.trans (hB3x.mono HB2.out.size)
  have HO3 : Hid (Ow (w1.alloc (.cells #[] 60)).heap.size w3 (.slice ta T.length tc) T) := HO2.out.below hB3x (Nat.le_refl _)
  have hc3 := HC2.out w3 HB23.out
  clear hB3 hB3x HO2 hc2
  have hlt3 := HLT.out w3 HB3.out
  obtain ⟨G, g, HGC, HGQ, HGL0⟩ := get_code b (by omega)
  by_cases hE0 : E = 0
  case neg =>
    have hke : ((E : Int) == 0) = false := by simp; omega
    go_wp2_with (go_at_call 13; refine (num_any _ _).mono ?_; rintro e w' ⟨rfl, hw⟩; subst w')
    refine (HGC.out _ w.heap.size w3 (HBB.out w3 HB3.out) (by omega)).mono ?_
    rintro e w3a ⟨my, rfl, hmy, hYa, hBa⟩
    unfold Msg.v
    have HBa : Hid (Below W0.heap.size W0 w3a) := HB3.out.trans (hBa.mono HB3.out.size)
    have HB2a : Hid (Below w2.heap.size w2 w3a) := HB23.out.trans (hBa.mono HB23.out.size)
    clear hBa
    go_wp2_with fail
    obtain ⟨Wy, hWy⟩ : ∃ Wy, w3a.alloc (.cells #[.int .i64 my.kd, .int .i64 my.fr, .int .i64 my.to, .int .i64 my.tm, .int .i64 my.ix, .int .i64 my.lt, .int .i64 my.cm, .int .i64 my.hi, .int .i64 my.cx, .bool my.rj, .slice my.ea my.es.length my.ec, .int .i64 my.si, .int .i64 my.st, .slice my.sa my.sd.length my.sc] 49) = Wy := ⟨_, rfl⟩
    rw [hWy]
    have HY : Hid (∀ w', Below Wy.heap.size Wy w' → w'.heap[w3a.heap.size]? = some (.cells #[.int .i64 my.kd, .int .i64 my.fr, .int .i64 my.to, .int .i64 my.tm, .int .i64 my.ix, .int .i64 my.lt, .int .i64 my.cm, .int .i64 my.hi, .int .i64 my.cx, .bool my.rj, .slice my.ea my.es.length my.ec, .int .i64 my.si, .int .i64 my.st, .slice my.sa my.sd.length my.sc] 49 (0, 0))) := fun w' hB => by
      refine (hB.block _ (by rw [← hWy]; simp)).trans ?_
      rw [← hWy]; exact World.alloc_heap_new w3a _
    have hBy : Below w3a.heap.size w3a Wy := by rw [← hWy]; exact (Below.refl _ _).alloc (Nat.le_refl _) _
    clear hWy
    have HOy : Hid (my.Own w3.heap.size Wy) := hYa.below hBy
    have HBy : Hid (Below W0.heap.size W0 Wy) := HBa.out.trans (hBy.mono HBa.out.size)
    have HB2y : Hid (Below w2.heap.size w2 Wy) := HB2a.out.trans (hBy.mono HB2a.out.size)
    have hcy := HC2.out Wy HB2y.out
    obtain ⟨⟨y0, y1, y2, y3, y4, y5, y6, y7, y8, y9, y10, y11, y12, y13⟩, -⟩ := cells14 (HY.out Wy (Below.refl _ _))
    clear hBy hYa
    by_cases hg0 : g = 0
    case neg =>
      have hkg : ((g : Int) != 0) = true := by simp; omega
      go_wp2_with (go_at_call 13; refine (num_any _ _).mono ?_; rintro e w' ⟨rfl, hw⟩; subst w')
      go_ret
      exact ⟨rfl, HFN.out _ HBy.out⟩
    subst hg0
    obtain ⟨mm, hm1, hm2, hm3⟩ := HGQ.out rfl
    have hms := of_says (hmy.trans hm1.symm)
    have hpy := putMsg_any my Wy.heap.size Wy HOy.out.at (Nat.le_refl _)
    have HCY : Hid (∀ N w', my.At N w' → N ≤ w'.heap.size → Calls Try.prog 24 #[.agg #[], my.v] w' fun e w'' => e = .returned (.int .i64 ((0 : Nat) : Int)) ∧ Below w'.heap.size w' w'') := fun N w' h hN => by
      have := chkMsg_any my N w' h hN
      rw [hms.1, hm2] at this
      exact this
    rw [hms.1, hm2, if_pos rfl, hms.2, hm3] at hpy
    clear hm1 hm2 hm3 hms hmy
    go_wp2_with (go_at_call 13; refine (num_any _ _).mono ?_; rintro e w' ⟨rfl, hw⟩; subst w')
    refine hpy.mono ?_
    rintro e w3p ⟨vp, rfl, hOp, hBp⟩
    clear hpy
    obtain ⟨pa, pc, rfl, -, -⟩ := hOp.shape
    have HBp : Hid (Below W0.heap.size W0 w3p) := HBy.out.trans (hBp.mono HBy.out.size)
    have hBP := hBp
    go_wp2_with fail
    refine (same_any w3p.heap.size _ _ b b w3p (hOp.sl (Nat.le_refl _)) ((HBB.out w3p HBp.out).mono (Nat.le_of_lt (HLT.out w3p HBp.out)))).mono ?_
    rintro e w3s ⟨rfl, n9, hw9⟩
    have hBs : Below w3p.heap.size w3p w3s := by rw [hw9]; exact below_drewN (Below.refl _ _) n9
    clear hw9
    have HYs : Hid (Below Wy.heap.size Wy w3s) := hBP.trans (hBs.mono hBP.size)
    have HBs : Hid (Below W0.heap.size W0 w3s) := HBp.out.trans (hBs.mono HBp.out.size)
    have HB2s : Hid (Below w2.heap.size w2 w3s) := HB2y.out.trans (HYs.out.mono HB2y.out.size)
    have HOs : Hid (my.Own w3.heap.size w3s) := HOy.out.below HYs.out
    have hcs := HC2.out w3s HB2s.out
    obtain ⟨⟨y0, y1, y2, y3, y4, y5, y6, y7, y8, y9, y10, y11, y12, y13⟩, -⟩ := cells14 (HY.out w3s HYs.out)
    have hlts : w3a.heap.size < w3s.heap.size := (Array.getElem?_eq_some_iff.1 (HY.out w3s HYs.out)).1
    clear hBs hBP hBp hOp hcy
    simp only [decide_true]
    go_wp2_with (first
      | (go_at_call 13; refine (num_any _ _).mono ?_; rintro e w' ⟨rfl, hw⟩; subst w')
      | (go_at_call 24; refine (HCY.out w3s.heap.size _ ?_ ?_).mono ?_; exact HOs.out.at; exact Nat.le_refl _; rintro e w3t ⟨rfl, hBt⟩))
    go_ret
    exact ⟨rfl, HFN.out _ (HBs.out.trans (hBt.mono HBs.out.size))⟩
  subst hE0
  obtain ⟨hb1, hb2⟩ := HBK.out rfl
  have HBK1 : Hid (∀ v M w', Sl M w' v T → M ≤ w'.heap.size → Calls Try.prog 25 #[.agg #[], v] w' (GotM w' 0 m.says)) := hb1
  have HBK2 : Hid (∀ n : Msg, n.says = m.says → n.ck = 0 ∧ n.tx = T) := hb2
  clear hb1 hb2 HBK
  go_wp2_with (go_at_call 13; refine (num_any _ _).mono ?_; rintro e w' ⟨rfl, hw⟩; subst w')
  refine (HBK1.out _ w3.heap.size w3 (HO3.out.sl (Nat.le_refl _)) (Nat.le_refl _)).mono ?_
  rintro e w4a ⟨mx, rfl, hmx, hX4, hB4a⟩
  unfold Msg.v
  have HB34 : Hid (Below w3.heap.size w3 w4a) := hB4a
  have HB4a : Hid (Below W0.heap.size W0 w4a) := HB3.out.trans (hB4a.mono HB3.out.size)
  have hlt4a := HLT.out w4a HB4a.out
  obtain ⟨⟨q0, q1, q2, q3, q4, q5, q6, q7, q8, q9, q10, q11, q12, q13⟩, -⟩ := cells14 (HX.out w4a HB4a.out)
  clear hB4a
  go_wp2_with fail
  obtain ⟨Wx, hWx⟩ : ∃ Wx, w4a.alloc (.cells #[.int .i64 mx.kd, .int .i64 mx.fr, .int .i64 mx.to, .int .i64 mx.tm, .int .i64 mx.ix, .int .i64 mx.lt, .int .i64 mx.cm, .int .i64 mx.hi, .int .i64 mx.cx, .bool mx.rj, .slice mx.ea mx.es.length mx.ec, .int .i64 mx.si, .int .i64 mx.st, .slice mx.sa mx.sd.length mx.sc] 49) = Wx := ⟨_, rfl⟩
  rw [hWx]
  have HXX : Hid (∀ w', Below Wx.heap.size Wx w' → w'.heap[w4a.heap.size]? = some (.cells #[.int .i64 mx.kd, .int .i64 mx.fr, .int .i64 mx.to, .int .i64 mx.tm, .int .i64 mx.ix, .int .i64 mx.lt, .int .i64 mx.cm, .int .i64 mx.hi, .int .i64 mx.cx, .bool mx.rj, .slice mx.ea mx.es.length mx.ec, .int .i64 mx.si, .int .i64 mx.st, .slice mx.sa mx.sd.length mx.sc] 49 (0, 0))) := fun w' hB => by
    refine (hB.block _ (by rw [← hWx]; simp)).trans ?_
    rw [← hWx]; exact World.alloc_heap_new w4a _
  have hBx : Below w4a.heap.size w4a Wx := by rw [← hWx]; exact (Below.refl _ _).alloc (Nat.le_refl _) _
  clear hWx
  have HB3x : Hid (Below w3.heap.size w3 Wx) := HB34.out.trans (hBx.mono HB34.out.size)
  have HBx : Hid (Below W0.heap.size W0 Wx) := HB3.out.trans (HB3x.out.mono HB3.out.size)
  have HOx : Hid (mx.Own w3.heap.size Wx) := hX4.below hBx
  have HMX : Hid (mx.says = m.says) := hmx
  have HML : Hid (mx.es.length ≤ 1000000) := by have := says_len hmx; show mx.es.length ≤ 1000000; omega
  clear hBx hX4 hmx HB34
  obtain ⟨⟨q0, q1, q2, q3, q4, q5, q6, q7, q8, q9, q10, q11, q12, q13⟩, -⟩ := cells14 (HX.out Wx HBx.out)
  obtain ⟨⟨x0, x1, x2, x3, x4, x5, x6, x7, x8, x9, x10, x11, x12, x13⟩, -⟩ := cells14 (HXX.out Wx (Below.refl _ _))
  have hltx := HLT.out Wx HBx.out
  go_wp2_with fail
  refine (sameMsgs_any mx m Wx.heap.size Wx HOx.out.at ((HAT.out Wx HBx.out).mono (Nat.le_of_lt hltx)) (Nat.le_refl _) HML.out).mono ?_
  rintro e w5 ⟨t5, rfl, ht5, hB5⟩
  obtain rfl : t5 = true := ht5.2 HMX.out
  clear ht5
  have HBx5 : Hid (Below Wx.heap.size Wx w5) := hB5
  have HB35 : Hid (Below w3.heap.size w3 w5) := HB3x.out.trans (hB5.mono HB3x.out.size)
  have HB5 : Hid (Below W0.heap.size W0 w5) := HB3.out.trans (HB35.out.mono HB3.out.size)
  have HB25 : Hid (Below w2.heap.size w2 w5) := HB23.out.trans (HB35.out.mono HB23.out.size)
  have HO5 : Hid (mx.Own w3.heap.size w5) := HOx.out.below hB5
  clear hB5 x0 x1 x2 x3 x4 x5 x6 x7 x8 x9 x10 x11 x12 x13
  have hc5 := HC2.out w5 HB25.out
  obtain ⟨⟨x0, x1, x2, x3, x4, x5, x6, x7, x8, x9, x10, x11, x12, x13⟩, -⟩ := cells14 (HXX.out w5 HBx5.out)
  have hlx5 : w4a.heap.size < w5.heap.size := (Array.getElem?_eq_some_iff.1 (HXX.out w5 HBx5.out)).1
  have hpx := putMsg_any mx w5.heap.size w5 HO5.out.at (Nat.le_refl _)
  rw [(HBK2.out mx HMX.out).1, if_pos rfl, (HBK2.out mx HMX.out).2] at hpx
  go_wp2_with fail
  refine hpx.mono ?_
  rintro e w6 ⟨v6, rfl, hO6, hB6⟩
  clear hpx
  obtain ⟨ua, uc, rfl, -, -⟩ := hO6.shape
  have HB36 : Hid (Below w3.heap.size w3 w6) := HB35.out.trans (hB6.mono HB35.out.size)
  have HT6 : Hid (Ow (w1.alloc (.cells #[] 60)).heap.size w6 (.slice ta T.length tc) T) := HO3.out.below HB36.out (Nat.le_refl _)
  clear hB6
  go_wp2_with fail
  refine (same_any w6.heap.size _ _ T T w6 (HT6.out.sl (Nat.le_refl _)) (hO6.sl (Nat.le_refl _))).mono ?_
  rintro e w7 ⟨rfl, n7, hw7⟩
  have hB67 : Below w6.heap.size w6 w7 := by rw [hw7]; exact below_drewN (Below.refl _ _) n7
  clear hw7 HT6 hO6
  have HB37 : Hid (Below w3.heap.size w3 w7) := HB36.out.trans (hB67.mono HB36.out.size)
  have HB7 : Hid (Below W0.heap.size W0 w7) := HB3.out.trans (HB37.out.mono HB3.out.size)
  have HB27 : Hid (Below w2.heap.size w2 w7) := HB23.out.trans (HB37.out.mono HB23.out.size)
  clear hB67 hc3 hc5 x0 x1 x2 x3 x4 x5 x6 x7 x8 x9 x10 x11 x12 x13
  have hc7 := HC2.out w7 HB27.out
  have hlt7 := HLT.out w7 HB7.out
  simp only [decide_true]
  go_wp2_with (go_at_call 13; refine (num_any _ _).mono ?_; rintro e w' ⟨rfl, hw⟩; subst w')
  refine (HGC.out _ w.heap.size w7 (HBB.out w7 HB7.out) (by omega)).mono ?_
  rintro e w7a ⟨my, rfl, hmy, hYa, hBa⟩
  unfold Msg.v
  have HBa : Hid (Below W0.heap.size W0 w7a) := HB7.out.trans (hBa.mono HB7.out.size)
  have HB2a : Hid (Below w2.heap.size w2 w7a) := HB27.out.trans (hBa.mono HB27.out.size)
  clear hBa
  go_wp2_with fail
  obtain ⟨Wy, hWy⟩ : ∃ Wy, w7a.alloc (.cells #[.int .i64 my.kd, .int .i64 my.fr, .int .i64 my.to, .int .i64 my.tm, .int .i64 my.ix, .int .i64 my.lt, .int .i64 my.cm, .int .i64 my.hi, .int .i64 my.cx, .bool my.rj, .slice my.ea my.es.length my.ec, .int .i64 my.si, .int .i64 my.st, .slice my.sa my.sd.length my.sc] 49) = Wy := ⟨_, rfl⟩
  rw [hWy]
  have HY : Hid (∀ w', Below Wy.heap.size Wy w' → w'.heap[w7a.heap.size]? = some (.cells #[.int .i64 my.kd, .int .i64 my.fr, .int .i64 my.to, .int .i64 my.tm, .int .i64 my.ix, .int .i64 my.lt, .int .i64 my.cm, .int .i64 my.hi, .int .i64 my.cx, .bool my.rj, .slice my.ea my.es.length my.ec, .int .i64 my.si, .int .i64 my.st, .slice my.sa my.sd.length my.sc] 49 (0, 0))) := fun w' hB => by
    refine (hB.block _ (by rw [← hWy]; simp)).trans ?_
    rw [← hWy]; exact World.alloc_heap_new w7a _
  have hBy : Below w7a.heap.size w7a Wy := by rw [← hWy]; exact (Below.refl _ _).alloc (Nat.le_refl _) _
  clear hWy
  have HOy : Hid (my.Own w7.heap.size Wy) := hYa.below hBy
  have HBy : Hid (Below W0.heap.size W0 Wy) := HBa.out.trans (hBy.mono HBa.out.size)
  have HB2y : Hid (Below w2.heap.size w2 Wy) := HB2a.out.trans (hBy.mono HB2a.out.size)
  have hcy := HC2.out Wy HB2y.out
  obtain ⟨⟨y0, y1, y2, y3, y4, y5, y6, y7, y8, y9, y10, y11, y12, y13⟩, -⟩ := cells14 (HY.out Wy (Below.refl _ _))
  clear hBy hYa
  by_cases hg0 : g = 0
  case neg =>
    have hkg : ((g : Int) != 0) = true := by simp; omega
    go_wp2_with (go_at_call 13; refine (num_any _ _).mono ?_; rintro e w' ⟨rfl, hw⟩; subst w')
    go_ret
    exact ⟨rfl, HFN.out _ HBy.out⟩
  subst hg0
  obtain ⟨mm, hm1, hm2, hm3⟩ := HGQ.out rfl
  have hms := of_says (hmy.trans hm1.symm)
  have hpy := putMsg_any my Wy.heap.size Wy HOy.out.at (Nat.le_refl _)
  have HCY : Hid (∀ N w', my.At N w' → N ≤ w'.heap.size → Calls Try.prog 24 #[.agg #[], my.v] w' fun e w'' => e = .returned (.int .i64 ((0 : Nat) : Int)) ∧ Below w'.heap.size w' w'') := fun N w' h hN => by
    have := chkMsg_any my N w' h hN
    rw [hms.1, hm2] at this
    exact this
  rw [hms.1, hm2, if_pos rfl, hms.2, hm3] at hpy
  clear hm1 hm2 hm3 hms hmy
  go_wp2_with (go_at_call 13; refine (num_any _ _).mono ?_; rintro e w' ⟨rfl, hw⟩; subst w')
  refine hpy.mono ?_
  rintro e w7p ⟨vp, rfl, hOp, hBp⟩
  clear hpy
  obtain ⟨pa, pc, rfl, -, -⟩ := hOp.shape
  have HBp : Hid (Below W0.heap.size W0 w7p) := HBy.out.trans (hBp.mono HBy.out.size)
  have hBP := hBp
  go_wp2_with fail
  refine (same_any w7p.heap.size _ _ b b w7p (hOp.sl (Nat.le_refl _)) ((HBB.out w7p HBp.out).mono (Nat.le_of_lt (HLT.out w7p HBp.out)))).mono ?_
  rintro e w7s ⟨rfl, n9, hw9⟩
  have hBs : Below w7p.heap.size w7p w7s := by rw [hw9]; exact below_drewN (Below.refl _ _) n9
  clear hw9
  have HYs : Hid (Below Wy.heap.size Wy w7s) := hBP.trans (hBs.mono hBP.size)
  have HBs : Hid (Below W0.heap.size W0 w7s) := HBp.out.trans (hBs.mono HBp.out.size)
  have HB2s : Hid (Below w2.heap.size w2 w7s) := HB2y.out.trans (HYs.out.mono HB2y.out.size)
  have HOs : Hid (my.Own w7.heap.size w7s) := HOy.out.below HYs.out
  have hcs := HC2.out w7s HB2s.out
  obtain ⟨⟨y0, y1, y2, y3, y4, y5, y6, y7, y8, y9, y10, y11, y12, y13⟩, -⟩ := cells14 (HY.out w7s HYs.out)
  have hlts : w7a.heap.size < w7s.heap.size := (Array.getElem?_eq_some_iff.1 (HY.out w7s HYs.out)).1
  clear hBs hBP hBp hOp hcy
  simp only [decide_true]
  go_wp2_with (first
    | (go_at_call 13; refine (num_any _ _).mono ?_; rintro e w' ⟨rfl, hw⟩; subst w')
    | (go_at_call 24; refine (HCY.out w7s.heap.size _ ?_ ?_).mono ?_; exact HOs.out.at; exact Nat.le_refl _; rintro e w7t ⟨rfl, hBt⟩))
  go_ret
  exact ⟨rfl, HFN.out _ (HBs.out.trans (hBt.mono HBs.out.size))⟩
end Go.Proofs.Ytfnnbfgfmbiabab
