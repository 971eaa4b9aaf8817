/-
  KvBack: a snapshot restored answers as the store does, and what is restored of any bytes has them as its snapshot.
-/
import Derived.Test.YtglhjgfaelfleaaSr
namespace Go.Proofs.Ytglhjgfaelfleaa
open Go.RowKit
set_option linter.unusedVariables false

theorem Sl.wide {N M : Nat} {w : World} {v : Value} {l : Bs} (h : Sl N w v l) (hM : N ≤ M) : Sl M w v l := by
  obtain ⟨a, cap, rfl, h1, h2, h3⟩ := h
  refine ⟨a, cap, rfl, h1, h2, ?_⟩
  rcases h3 with h3 | ⟨b, off, e, hb, hc⟩
  · exact .inl h3
  · exact .inr ⟨b, off, e, by omega, hc⟩

set_option maxRecDepth 100000 in
set_option maxHeartbeats 1000000 in
theorem back_walk (w : World) (sl : Option Addr) (cap : Nat) (cs : List Cm) (hc : Cs w.heap.size w sl cs) (sl' : Option Addr) (cap' : Nat) (os : List Cm) (hos : Cs w.heap.size w sl' os) (ba : Option Addr) (bc : Nat) (bs : Bs) (hbs : Sl w.heap.size w (.slice ba bs.length bc) bs) :
    Calls Try.prog 6 #[.slice sl cs.length cap, .slice sl' os.length cap', .slice ba bs.length bc] w fun e w' => e = .returned (.bool true) ∧ Below w.heap.size w w' := by
  have HC : Hid (∀ W, Below w.heap.size w W → Cs w.heap.size W sl cs) := fun W hB => hc.below hB
  have HOS : Hid (∀ W, Below w.heap.size w W → Cs w.heap.size W sl' os) := fun W hB => hos.below hB
  have HBS : Hid (∀ W, Below w.heap.size w W → Sl w.heap.size W (.slice ba bs.length bc) bs) := fun W hB => hbs.below hB
  have hl : cs.length ≤ maxLen := hc.1
  have hlo : os.length ≤ maxLen := hos.1
  unfold maxLen at hl hlo
  clear hc hos hbs
  go_enter Try.func6, Try.ntmps6
  go_wp2_with fail
  refine (first_any w).mono ?_
  rintro e w1 ⟨rfl, hB1⟩
  have HB1 : Hid (Below w.heap.size w w1) := hB1
  clear hB1
  have HF := few_any sl cap cs w.heap.size w1 (HC.out w1 HB1.out)
  go_wp2_with fail
  refine HF.mono ?_
  rintro e w2 ⟨t, rfl, ht, q2, rfl⟩
  clear HF
  have HB2 : Hid (Below w.heap.size w (w1.drewN q2)) := Below.drewN' HB1.out _
  cases t with
  | false =>
    go_wp2
    go_ret
    exact ⟨rfl, HB2.out⟩
  | true =>
    have hlc := ht rfl
    obtain ⟨W1, HW1⟩ : ∃ W1, Hid (w1.drewN q2 = W1) := ⟨_, rfl⟩
    rw [HW1.out] at HB2 ⊢
    clear HW1 HB1 ht
    have HF := few_any sl' cap' os w.heap.size W1 (HOS.out W1 HB2.out)
    go_wp2_with fail
    refine HF.mono ?_
    rintro e w3 ⟨t, rfl, ht, q3, rfl⟩
    clear HF
    have HB3 : Hid (Below w.heap.size w (W1.drewN q3)) := Below.drewN' HB2.out _
    cases t with
    | false =>
      go_wp2
      go_ret
      exact ⟨rfl, HB3.out⟩
    | true =>
      have hlo' := ht rfl
      obtain ⟨W2, HW2⟩ : ∃ W2, Hid (W1.drewN q3 = W2) := ⟨_, rfl⟩
      rw [HW2.out] at HB3 ⊢
      clear HW2 HB2 ht hl hlo
      by_cases hbl : bs.length ≤ 40000
      case neg =>
        have hgt : (40000 : Int) < (bs.length : Int) := by omega
        go_wp2
        go_ret
        exact ⟨rfl, HB3.out⟩
      have hgt : decide ((40000 : Int) < (bs.length : Int)) = false := by simp; omega
      go_wp2_with fail
      refine (new_any W2).mono ?_
      rintro e W3 ⟨rfl, h3, hB3, hz3⟩
      have HU3 : Hid (Up w W3 (W2.heap.size + 2) W2.heap.size (W2.heap.size + 1) ⟨[], []⟩) := ⟨h3, HB3.out.trans (hB3.mono HB3.out.size), HB3.out.size, by have := HB3.out.size; omega⟩
      generalize W2.heap.size + 2 = p1 at *
      generalize W2.heap.size + 1 = s1 at *
      generalize W2.heap.size = m1 at *
      clear h3 hB3 hz3 HB3
      have CD := does_any HU3.out sl cap cs (HC.out _ HU3.out.bel) (Nat.le_refl _) (by omega)
      obtain ⟨K, HKK⟩ : ∃ K, Hid (runF ⟨[], []⟩ cs = K) := ⟨_, rfl⟩
      rw [HKK.out] at CD
      have HD : Hid (Calls _ _ _ _ _) := CD
      clear CD HKK
      go_wp2_with fail
      refine HD.out.mono ?_
      rintro e W4 ⟨v4, rfl, hU4, hR4, hk4, hO4⟩
      have HU4 : Hid (Up w W4 p1 m1 s1 K) := hU4
      obtain ⟨va, vc, rfl, -, -⟩ := hR4.shape
      clear hU4 hR4 hk4 hO4 HD HU3
      generalize (repF ⟨[], []⟩ cs).length = nrep
      have CS := snapshot_any HU4.out.st
      have HCS : Hid (Calls _ _ _ _ _) := CS
      clear CS
      go_wp2_with fail
      refine HCS.out.mono ?_
      rintro e W5 ⟨v5, rfl, hO5, hB5⟩
      obtain ⟨ta, tc, rfl, -, -⟩ := hO5.shape
      have HU5 : Hid (Up w W5 p1 m1 s1 K) := HU4.out.below hB5
      have HO5 : Hid (Ow 0 W5 (.slice ta (snapB K).length tc) (snapB K)) := hO5.base (Nat.zero_le _)
      clear hO5 hB5 HCS HU4
      have CR := restore_any W5 (HO5.out.sl (Nat.le_refl _)) (by have := snapB_len HU5.out.st.ok; omega)
      have HCR : Hid (Calls _ _ _ _ _) := CR
      clear CR
      go_wp2_with fail
      refine HCR.out.mono ?_
      rintro e W6 ⟨hB6, hR6⟩
      obtain ⟨hE0, hK0⟩ := rst_snap HU5.out.st.ok HU5.out.st.risP HU5.out.st.risS
      rcases hR6 with ⟨h1, -⟩ | ⟨-, p2, m2, s2, rfl, hS6, hm2, hs2⟩
      · exact absurd hE0 h1
      rw [hK0] at hS6
      have HT6 : Hid (Two w W6 p1 m1 s1 K p2 m2 s2 K) := ⟨HU5.out.below hB6, ⟨hS6.st HU5.out.st.ok, (HU5.out.below hB6).bel, by have := HU5.out.bel.size; omega⟩, by have := HU5.out.st.lt; omega⟩
      have HO6 : Hid (Ow 0 W6 (.slice ta (snapB K).length tc) (snapB K)) := HO5.out.below hB6 (Nat.le_refl _)
      clear hB6 hE0 hK0 hS6 hm2 hs2 HU5 HO5 HCR
      go_wp2_with fail
      refine (num_any _ _).mono ?_
      rintro e wz ⟨rfl, hz⟩
      subst hz
      have CS := snapshot_any HT6.out.u2.st
      have HCS : Hid (Calls _ _ _ _ _) := CS
      clear CS
      go_wp2_with fail
      refine HCS.out.mono ?_
      rintro e W7 ⟨v7, rfl, hO7, hB7⟩
      obtain ⟨ua, uc, rfl, -, -⟩ := hO7.shape
      have HT7 : Hid (Two w W7 p1 m1 s1 K p2 m2 s2 K) := HT6.out.below hB7
      have CM := same_any W7.heap.size _ _ _ _ W7 (hO7.sl (Nat.le_refl _)) ((HO6.out.below hB7 (Nat.le_refl _)).sl (Nat.le_refl _))
      have HM : Hid (Calls _ _ _ _ _) := CM
      clear CM hO7 hB7 HCS HT6 HO6
      go_wp2_with fail
      refine HM.out.mono ?_
      rintro e W8 ⟨rfl, q8, rfl⟩
      obtain ⟨W8, HW8⟩ : ∃ W8, Hid (W7.drewN q8 = W8) := ⟨_, rfl⟩
      have HT8 : Hid (Two w W8 p1 m1 s1 K p2 m2 s2 K) := by rw [← HW8.out]; exact HT7.out.below (Below.drewN' (Below.refl _ _) _)
      rw [HW8.out]
      clear HW8 HM HT7
      have CD := does_any HT8.out.u1 sl' cap' os (HOS.out _ HT8.out.u1.bel) (Nat.le_refl _) (by omega)
      have HD : Hid (Calls _ _ _ _ _) := CD
      clear CD
      go_wp2_with fail
      refine HD.out.mono ?_
      rintro e W9 ⟨vx, rfl, hU9, hR9, hk9, hO9⟩
      have HT9 : Hid (Two w W9 p1 m1 s1 (runF K os) p2 m2 s2 K) := HT8.out.do1 hU9 hO9
      have HX9 : Hid (Ro RR 0 W9 vx (repF K os)) := hR9.base (Nat.zero_le _)
      clear hU9 hR9 hk9 hO9 HD HT8
      have CD := does_any HT9.out.u2 sl' cap' os (HOS.out _ HT9.out.u1.bel) (Nat.le_refl _) (by omega)
      have HD : Hid (Calls _ _ _ _ _) := CD
      clear CD
      obtain ⟨xa, xc, rfl, -, -⟩ := HX9.out.shape
      go_wp2_with fail
      refine HD.out.mono ?_
      rintro e Wa ⟨vy, rfl, hUa, hRa, hka, hOa⟩
      have HTa : Hid (Two w Wa p1 m1 s1 (runF K os) p2 m2 s2 (runF K os)) := HT9.out.do2 hUa hOa
      have HXa : Hid (Ro RR 0 Wa (.slice xa (repF K os).length xc) (repF K os)) := HX9.out.kpt hka
      have HYa : Hid (Ro RR 0 Wa vy (repF K os)) := hRa.base (Nat.zero_le _)
      clear hUa hRa hka hOa HD HT9 HX9
      obtain ⟨ya, yc, rfl, -, -⟩ := HYa.out.shape
      have CM := sameR_any HXa.out HYa.out (by rw [repF_len]; omega)
      have HM : Hid (Calls _ _ _ _ _) := CM
      clear CM
      generalize runF K os = K2 at *
      generalize repF K os = rps at *
      go_wp2_with fail
      refine HM.out.mono ?_
      rintro e Wb ⟨rfl, hBb⟩
      have HTb : Hid (Two w Wb p1 m1 s1 K2 p2 m2 s2 K2) := HTa.out.below hBb
      clear HM hBb HTa HXa HYa
      have CS := snapshot_any HTb.out.u2.st
      have HCS : Hid (Calls _ _ _ _ _) := CS
      clear CS
      go_wp2_with fail
      refine HCS.out.mono ?_
      rintro e Wc ⟨vc', rfl, hOc, hBc⟩
      obtain ⟨fa, fc, rfl, -, -⟩ := hOc.shape
      have HTc : Hid (Two w Wc p1 m1 s1 K2 p2 m2 s2 K2) := HTb.out.below hBc
      have HOc : Hid (Ow 0 Wc (.slice fa (snapB K2).length fc) (snapB K2)) := hOc.base (Nat.zero_le _)
      clear hOc hBc HCS HTb
      have CS := snapshot_any HTc.out.u1.st
      have HCS : Hid (Calls _ _ _ _ _) := CS
      clear CS
      go_wp2_with fail
      refine HCS.out.mono ?_
      rintro e Wd ⟨vd, rfl, hOd, hBd⟩
      obtain ⟨ga, gc, rfl, -, -⟩ := hOd.shape
      have HBd : Hid (Below w.heap.size w Wd) := (HTc.out.u1.below hBd).bel
      have CM := same_any Wd.heap.size _ _ _ _ Wd ((HOc.out.below hBd (Nat.le_refl _)).sl (Nat.le_refl _)) (hOd.sl (Nat.le_refl _))
      have HM : Hid (Calls _ _ _ _ _) := CM
      clear CM hOd hBd HCS HTc HOc
      go_wp2_with fail
      refine HM.out.mono ?_
      rintro e We ⟨rfl, qe, rfl⟩
      obtain ⟨We, HWe⟩ : ∃ We, Hid (Wd.drewN qe = We) := ⟨_, rfl⟩
      have HBe : Hid (Below w.heap.size w We) := by rw [← HWe.out]; exact Below.drewN' HBd.out _
      rw [HWe.out]
      clear HWe HM HBd
      have CR := restore_any We (HBS.out We HBe.out) (by omega)
      have HCR : Hid (Calls _ _ _ _ _) := CR
      clear CR
      go_wp2_with fail
      refine HCR.out.mono ?_
      rintro e Wf ⟨hBf, hRf⟩
      have HBf : Hid (Below w.heap.size w Wf) := HBe.out.trans (hBf.mono HBe.out.size)
      clear HCR hBf
      rcases hRf with ⟨h1, rfl⟩ | ⟨h1, p3, m3, s3, rfl, hSf, -, -⟩
      · generalize rstE bs = er at *
        have h1' : ((er : Int) != 0) = true := by simpa using h1
        go_wp2_with fail
        refine (num_any _ _).mono ?_
        rintro e wz ⟨rfl, hz⟩
        subst hz
        go_wp2
        go_ret
        exact ⟨by simp, HBf.out⟩
      · obtain ⟨hok, hsn⟩ := rst_ok h1
        have CS := snapshot_any (hSf.st hok)
        rw [hsn] at CS
        have HCS : Hid (Calls _ _ _ _ _) := CS
        clear CS hSf hok hsn h1
        go_wp2_with fail
        refine (num_any _ _).mono ?_
        rintro e wz ⟨rfl, hz⟩
        subst hz
        go_wp2_with fail
        refine HCS.out.mono ?_
        rintro e Wg ⟨vg, rfl, hOg, hBg⟩
        obtain ⟨ha, hcp, rfl, -, -⟩ := hOg.shape
        have HBg : Hid (Below w.heap.size w Wg) := HBf.out.trans (hBg.mono HBf.out.size)
        have CM := same_any Wg.heap.size _ _ _ _ Wg (hOg.sl (Nat.le_refl _)) ((HBS.out Wg HBg.out).wide HBg.out.size)
        have HM : Hid (Calls _ _ _ _ _) := CM
        clear CM hOg hBg HCS
        go_wp2_with fail
        refine HM.out.mono ?_
        rintro e Wh ⟨rfl, qh, rfl⟩
        go_wp2
        go_ret
        exact ⟨by simp, Below.drewN' HBg.out _⟩
end Go.Proofs.Ytglhjgfaelfleaa
