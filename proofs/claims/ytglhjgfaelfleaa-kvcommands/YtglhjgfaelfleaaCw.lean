/-
  KvCommands: a store hangs on its commands alone.
-/
import Derived.Test.YtglhjgfaelfleaaCy
namespace Go.Proofs.Ytglhjgfaelfleaa
open Go.RowKit
set_option linter.unusedVariables false

/-- A third store is changed: the two stay. -/
theorem Two.far {w W W' : World} {b1 p1 s1 b2 p2 s2 b3 p3 s3 M : Nat} {K1 K2 K3 : KV} (h : Two w W b1 p1 s1 K1 b2 p2 s2 K2) (h3 : St W b3 p3 s3 K3) (hO : Out (Mx p3 s3) W W') (hM : p1 < M ∧ s1 < M ∧ p2 < M ∧ s2 < M) (h33 : M ≤ p3 ∧ M ≤ s3) (hw : w.heap.size ≤ M) : Two w W' b1 p1 s1 K1 b2 p2 s2 K2 :=
  ⟨⟨h.u1.st.far h3 hO (by omega), out_bel h.u1.bel hO (by omega), h.u1.lm⟩, ⟨h.u2.st.far h3 hO (by omega), out_bel h.u1.bel hO (by omega), h.u2.lm⟩, h.ap⟩

set_option maxRecDepth 100000 in
set_option maxHeartbeats 8000000 in
theorem commands_walk (w : World) (a : Option Addr) (cap : Nat) (cs : List Cm) (hc : Cs w.heap.size w a cs) (a' : Option Addr) (cap' : Nat) (os : List Cm) (hos : Cs w.heap.size w a' os) (key : Bs) (hkey : key.length ≤ maxLen) :
    Calls Try.prog 7 #[.slice a cs.length cap, .slice a' os.length cap', .string ⟨key.toArray⟩] w fun e w' => e = .returned (.bool true) ∧ Below w.heap.size w w' := by
  have HC : Hid (∀ W, Below w.heap.size w W → Cs w.heap.size W a cs) := fun W hB => hc.below hB
  have HOS : Hid (∀ W, Below w.heap.size w W → Cs w.heap.size W a' os) := fun W hB => hos.below hB
  have hl : cs.length ≤ maxLen := hc.1
  have hlo : os.length ≤ maxLen := hos.1
  unfold maxLen at hl hlo hkey
  clear hc hos
  go_enter Try.func7, Try.ntmps7
  go_wp2_with fail
  refine (first_any w).mono ?_
  rintro e w1 ⟨rfl, hB1⟩
  have HF := few_any a cap cs w.heap.size w1 (HC.out w1 hB1)
  have HB1 : Hid (Below w.heap.size w w1) := hB1
  clear hB1
  go_wp2_with fail
  refine HF.mono ?_
  rintro e w2 ⟨t, rfl, ht, q2, rfl⟩
  have HB2 : Hid (Below w.heap.size w (w1.drewN q2)) := Below.drewN' HB1.out q2
  clear HF
  cases t with
  | false =>
    go_wp2
    go_ret
    exact ⟨rfl, HB2.out⟩
  | true =>
    have HF2 := few_any a' cap' os w.heap.size (w1.drewN q2) (HOS.out _ HB2.out)
    have hl4 : cs.length ≤ 400 := ht rfl
    clear ht
    go_wp2_with fail
    refine HF2.mono ?_
    rintro e w3 ⟨t, rfl, ht, q3, rfl⟩
    have HB3 : Hid (Below w.heap.size w ((w1.drewN q2).drewN q3)) := Below.drewN' HB2.out q3
    clear HF2 HB2 HB1
    cases t with
    | false =>
      go_wp2
      go_ret
      exact ⟨rfl, by simpa using HB3.out⟩
    | true =>
      by_cases hsm : cs.length ≤ 200
      case neg =>
        have hgt : (200 : Int) < (cs.length : Int) := by omega
        go_wp2
        go_ret
        exact ⟨rfl, by simpa using HB3.out⟩
      have hgt : decide ((200 : Int) < (cs.length : Int)) = false := by simp; omega
      by_cases hks : key.length ≤ 1000
      case neg =>
        have hgk : (1000 : Int) < (key.length : Int) := by omega
        go_wp2
        go_ret
        exact ⟨rfl, by simpa using HB3.out⟩
      have hgk : decide ((1000 : Int) < (key.length : Int)) = false := by simp; omega
      obtain ⟨W2, HW2⟩ : ∃ W2, Hid (w1.drewN (q2 + q3) = W2) := ⟨_, rfl⟩
      have hb4 : Below w.heap.size w W2 := by rw [← HW2.out]; simpa using HB3.out
      have HB4 : Hid (Below w.heap.size w W2) := hb4
      clear hb4
      clear HB3 ht hl hkey
      go_upto_region 5 with fail
      rw [HW2.out]
      clear HW2
      go_wp2_with fail
      refine (new_any W2).mono ?_
      rintro e W3 ⟨rfl, h3, hB3, hz3⟩
      have HU3 : Hid (Up w W3 (W2.heap.size + 2) W2.heap.size (W2.heap.size + 1) ⟨[], []⟩) := ⟨h3, HB4.out.trans (hB3.mono HB4.out.size), HB4.out.size, by have := HB4.out.size; omega⟩
      generalize W2.heap.size + 2 = b1 at *
      generalize W2.heap.size + 1 = s1 at *
      generalize W2.heap.size = p1 at *
      clear h3 hB3 hz3 HB4
      go_wp2_with fail
      refine (two_new HU3.out).mono ?_
      rintro e W4 ⟨b2, p2, s2, rfl, hT4, hB4⟩
      have HT4 : Hid (Two w W4 b1 p1 s1 ⟨[], []⟩ b2 p2 s2 ⟨[], []⟩) := hT4
      clear hT4 hB4 HU3
      have hnl := fun (W : World) (b : Nat) => eql_ptr_nil W b
      go_wp2_with fail
      go_loopw [11] (fun iv wr => ∃ i : Nat, iv = .int .i64 (i : Int) ∧ i ≤ cs.length ∧ Two w wr b1 p1 s1 (runF ⟨[], []⟩ (cs.take i)) b2 p2 s2 (runF ⟨[], []⟩ (cs.take i))) (fun iv _ => cs.length - (intOf iv).toNat)
      case atStart => exact ⟨0, rfl, Nat.zero_le _, HT4.out⟩
      case round =>
        obtain ⟨i, rfl, hi, hT⟩ := hrel
        clear HT4
        by_cases hlt : i < cs.length
        · have hlt' : (i : Int) < (cs.length : Int) := by omega
          have hi0 : (0 : Int) ≤ (i : Int) := by omega
          have HRK : Hid (runF ⟨[], []⟩ (cs.take (i + 1)) = (doF (runF ⟨[], []⟩ (cs.take i)) cs[i]).1) := runF_take hlt
          obtain ⟨g, off, hea, hg, -, -⟩ := (HC.out wr hT.u1.bel).at hlt
          subst hea
          have HCB : Hid (∀ W, Below w.heap.size w W → CmAt W g (off + i * 6) cs[i]) := fun W hB => by
            obtain ⟨g', off', h1, h2, h3, -⟩ := (HC.out W hB).at hlt
            cases h1
            exact h3
          generalize runF ⟨[], []⟩ (cs.take i) = K at *
          generalize cs[i] = x at *
          obtain ⟨c0, c1, c2, c3, c4, c5⟩ := HCB.out wr hT.u1.bel
          have CD1 := up_do hT.u1 x
          have CD2 := fun W (h : Up w W b2 p2 s2 K) => up_do h x
          obtain ⟨op, cl, sq, ky, vl, od⟩ := x
          dsimp only at c0 c1 c2 c3 c4 c5 CD1 CD2
          generalize doF K ⟨op, cl, sq, ky, vl, od⟩ = dd at CD1 CD2 HRK
          obtain ⟨K', rc', rv'⟩ := dd
          dsimp only at CD1 CD2 HRK
          generalize Cm.ck ⟨op, cl, sq, ky, vl, od⟩ = ee at CD1 CD2
          have HD1 : Hid (Calls _ _ _ _ _) := CD1
          have HD2 : Hid (∀ W, Up w W b2 p2 s2 K → Calls _ _ _ W _) := CD2
          have HT : Hid (Two w wr b1 p1 s1 K b2 p2 s2 K) := hT
          have lg : g < wr.heap.size := by have := hT.u1.bel.size; omega
          clear CD1 CD2 hT
          go_wp2_with fail
          refine HD1.out.mono ?_
          rintro e W5 ⟨rfl, hU5, hk5, hO5⟩
          obtain ⟨W6, HW6⟩ : ∃ W6, Hid (W5.alloc (.cells #[.int .i64 rc', .string ⟨rv'.toArray⟩] 33) = W6) := ⟨_, rfl⟩
          have HT6 : Hid (Two w W6 b1 p1 s1 K' b2 p2 s2 K) := by rw [← HW6.out]; exact (HT.out.do1 hU5 hO5).alloc _
          have HA6 : Hid (Rb W6 W5.heap.size rc' rv') := by rw [← HW6.out]; exact Rb.new _ _ _
          clear hU5 hk5 hO5 HT HD1 c0 c1 c2 c3 c4 c5 lg
          have CG := get_any HT6.out.u2.st key (by omega)
          have HG : Hid (Calls _ _ _ _ _) := CG
          clear CG
          go_upto_region 11 with fail
          rw [HW6.out]
          clear HW6
          go_wp2_with fail
          refine HG.out.mono ?_
          rintro e W7 ⟨rfl, hB7⟩
          have HT7 : Hid (Two w W7 b1 p1 s1 K' b2 p2 s2 K) := HT6.out.below hB7
          have HA7 : Hid (Rb W7 W5.heap.size rc' rv') := HA6.out.below hB7
          clear hB7 HT6 HA6 HG
          have CC := copy_any HT7.out.u2.st
          have HCC : Hid (Calls _ _ _ _ _) := CC
          clear CC
          go_wp2_with fail
          refine HCC.out.mono ?_
          rintro e W8 ⟨b3, p3, s3, rfl, h38, hB8, l3, l3'⟩
          have HT8 : Hid (Two w W8 b1 p1 s1 K' b2 p2 s2 K) := HT7.out.below hB8
          have HA8 : Hid (Rb W8 W5.heap.size rc' rv') := HA7.out.below hB8
          have HM : Hid ((p1 < W7.heap.size ∧ s1 < W7.heap.size ∧ p2 < W7.heap.size ∧ s2 < W7.heap.size) ∧ (W7.heap.size ≤ p3 ∧ W7.heap.size ≤ s3) ∧ w.heap.size ≤ W7.heap.size) := ⟨⟨HT7.out.u1.st.lt.2.1, HT7.out.u1.st.lt.2.2, HT7.out.u2.st.lt.2.1, HT7.out.u2.st.lt.2.2⟩, ⟨l3, l3'⟩, HT7.out.u1.bel.size⟩
          have HU8 : Hid (Up w W8 b3 p3 s3 K) := ⟨h38, HT8.out.u1.bel, by have := HM.out; omega⟩
          clear hB8 HT7 HA7 HCC h38
          have HEND : Hid (∀ V, Two w V b1 p1 s1 K' b2 p2 s2 K → Rb V W5.heap.size rc' rv' → True) := fun _ _ _ => trivial
          by_cases hio : i < os.length
          · have hio' : (i : Int) < (os.length : Int) := by omega
            obtain ⟨g2, off2, hea2, hg2, -, -⟩ := (HOS.out W8 HT8.out.u1.bel).at hio
            subst hea2
            obtain ⟨g2', off2', h1, -, ⟨d0, d1, d2, d3, d4, d5⟩, -⟩ := (HOS.out W8 HT8.out.u1.bel).at hio
            cases h1
            have CD3 := up_do HU8.out os[i]
            generalize os[i] = y at *
            obtain ⟨yop, ycl, ysq, yky, yvl, yod⟩ := y
            dsimp only at d0 d1 d2 d3 d4 d5 CD3
            generalize doF K ⟨yop, ycl, ysq, yky, yvl, yod⟩ = de at CD3
            obtain ⟨Ke, ec', ev'⟩ := de
            dsimp only at CD3
            generalize Cm.ck ⟨yop, ycl, ysq, yky, yvl, yod⟩ = fe at CD3
            have HD3 : Hid (Calls _ _ _ _ _) := CD3
            have lg2 : g2 < W8.heap.size := by have := HT8.out.u1.bel.size; omega
            clear CD3
            go_wp2_with fail
            refine HD3.out.mono ?_
            rintro e W9 ⟨rfl, hU9, hk9, hO9⟩
            have HT9 : Hid (Two w W9 b1 p1 s1 K' b2 p2 s2 K) := HT8.out.far HU8.out.st hO9 HM.out.1 HM.out.2.1 HM.out.2.2
            have HA9 : Hid (Rb W9 W5.heap.size rc' rv') := HA8.out.kpt hk9
            clear hU9 hk9 hO9 HT8 HA8 HU8 HD3 d0 d1 d2 d3 d4 d5 lg2 HM
            obtain ⟨c0, c1, c2, c3, c4, c5⟩ := HCB.out W9 HT9.out.u1.bel
            dsimp only at c0 c1 c2 c3 c4 c5
            have lg : g < W9.heap.size := by have := HT9.out.u1.bel.size; omega
            go_wp2_with fail
            refine (HD2.out _ HT9.out.u2).mono ?_
            rintro e Wa ⟨rfl, hUa, hka, hOa⟩
            obtain ⟨Wb, HWb⟩ : ∃ Wb, Hid (Wa.alloc (.cells #[.int .i64 rc', .string ⟨rv'.toArray⟩] 33) = Wb) := ⟨_, rfl⟩
            have HTb : Hid (Two w Wb b1 p1 s1 K' b2 p2 s2 K') := by rw [← HWb.out]; exact (HT9.out.do2 hUa hOa).alloc _
            have HAb : Hid (Rb Wb W5.heap.size rc' rv') := by rw [← HWb.out]; exact (HA9.out.kpt hka).alloc _
            have HEb : Hid (Rb Wb Wa.heap.size rc' rv') := by rw [← HWb.out]; exact Rb.new _ _ _
            clear hUa hka hOa HT9 HA9 HD2 c0 c1 c2 c3 c4 c5 lg
            obtain ⟨m0, m1⟩ := HAb.out.cells
            obtain ⟨n0, n1⟩ := HEb.out.cells
            go_upto_region 18 with fail
            rw [HWb.out]
            clear HWb HCB
            go_wp2
            go_roundw
            case rel => exact ⟨i + 1, by go_num, by omega, by rw [HRK.out]; exact HTb.out⟩
            case measure => simp [intOf]; omega
          · have hio' : decide ((i : Int) < (os.length : Int)) = false := by simp; omega
            clear HU8 HM
            obtain ⟨c0, c1, c2, c3, c4, c5⟩ := HCB.out W8 HT8.out.u1.bel
            dsimp only at c0 c1 c2 c3 c4 c5
            have lg : g < W8.heap.size := by have := HT8.out.u1.bel.size; omega
            go_wp2_with fail
            refine (HD2.out _ HT8.out.u2).mono ?_
            rintro e Wa ⟨rfl, hUa, hka, hOa⟩
            obtain ⟨Wb, HWb⟩ : ∃ Wb, Hid (Wa.alloc (.cells #[.int .i64 rc', .string ⟨rv'.toArray⟩] 33) = Wb) := ⟨_, rfl⟩
            have HTb : Hid (Two w Wb b1 p1 s1 K' b2 p2 s2 K') := by rw [← HWb.out]; exact (HT8.out.do2 hUa hOa).alloc _
            have HAb : Hid (Rb Wb W5.heap.size rc' rv') := by rw [← HWb.out]; exact (HA8.out.kpt hka).alloc _
            have HEb : Hid (Rb Wb Wa.heap.size rc' rv') := by rw [← HWb.out]; exact Rb.new _ _ _
            clear hUa hka hOa HT8 HA8 HD2 c0 c1 c2 c3 c4 c5 lg
            obtain ⟨m0, m1⟩ := HAb.out.cells
            obtain ⟨n0, n1⟩ := HEb.out.cells
            go_upto_region 18 with fail
            rw [HWb.out]
            clear HWb HCB
            go_wp2
            go_roundw
            case rel => exact ⟨i + 1, by go_num, by omega, by rw [HRK.out]; exact HTb.out⟩
            case measure => simp [intOf]; omega
        · have hlt' : decide ((i : Int) < (cs.length : Int)) = false := by simp; omega
          generalize runF ⟨[], []⟩ (cs.take i) = K at *
          have HT : Hid (Two w wr b1 p1 s1 K b2 p2 s2 K) := hT
          clear hT
          have CS := snapshot_any HT.out.u1.st
          go_wp2_with fail
          refine CS.mono ?_
          rintro e V1 ⟨v1, rfl, hO1, hB1⟩
          obtain ⟨ta, tc, rfl, -, -⟩ := hO1.shape
          have HT1 : Hid (Two w V1 b1 p1 s1 K b2 p2 s2 K) := HT.out.below hB1
          have HO1 : Hid (Ow 0 V1 (.slice ta (snapB K).length tc) (snapB K)) := hO1.base (Nat.zero_le _)
          clear hO1 hB1 CS HT
          have CS := snapshot_any HT1.out.u2.st
          go_wp2_with fail
          refine CS.mono ?_
          rintro e V2 ⟨v2, rfl, hO2, hB2⟩
          obtain ⟨ua, uc, rfl, -, -⟩ := hO2.shape
          have HB2 : Hid (Below w.heap.size w V2) := (HT1.out.u1.below hB2).bel
          have CM := same_any V2.heap.size _ _ _ _ V2 ((HO1.out.below hB2 (Nat.le_refl _)).sl (Nat.le_refl _)) (hO2.sl (Nat.le_refl _))
          have HM : Hid (Calls _ _ _ _ _) := CM
          clear hO2 hB2 CS HT1 HO1 CM
          go_wp2_with fail
          refine HM.out.mono ?_
          rintro e V3 ⟨rfl, q3, rfl⟩
          go_wp2
          go_ret
          exact ⟨by simp, Below.drewN' HB2.out _⟩
end Go.Proofs.Ytglhjgfaelfleaa
