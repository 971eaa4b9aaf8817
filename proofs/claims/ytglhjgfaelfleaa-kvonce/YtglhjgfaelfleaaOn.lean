/-
  KvOnce: a command that comes again is not done again.
-/
import Derived.Test.YtglhjgfaelfleaaHg
namespace Go.Proofs.Ytglhjgfaelfleaa
open Go.RowKit
set_option linter.unusedVariables false

/-- All commands were done: none would do anything. -/
theorem good_run : ∀ (cs : List Cm) (K : KV), (∀ k, k ≤ cs.length → Ris kS (runF K (cs.take k)).ss) → ∀ c ∈ cs, Good (runF K cs) c := by
  intro cs K hr c hc
  obtain ⟨i, hi, rfl⟩ := List.getElem_of_mem hc
  have key : ∀ n, i + 1 + n ≤ cs.length → Good (runF K (cs.take (i + 1 + n))) cs[i] := by
    intro n
    induction n with
    | zero => intro _; rw [Nat.add_zero, runF_take hi]; exact good_after _ _
    | succ m ih =>
      intro h
      rw [← Nat.add_assoc, runF_take (by omega : i + 1 + m < cs.length)]
      exact good_keeps (ih (by omega)) (hr _ (by omega)) _
  have := key (cs.length - (i + 1)) (by omega)
  rw [show i + 1 + (cs.length - (i + 1)) = cs.length by omega, List.take_length] at this
  exact this

set_option maxRecDepth 100000 in
set_option maxHeartbeats 8000000 in
theorem once_walk (w : World) (a : Option Addr) (cap : Nat) (cs : List Cm) (hc : Cs w.heap.size w a cs) :
    Calls Try.prog 5 #[.slice a cs.length cap] w fun e w' => e = .returned (.bool true) ∧ Below w.heap.size w w' := by
  have HC : Hid (∀ W, Below w.heap.size w W → Cs w.heap.size W a cs) := fun W hB => hc.below hB
  have hl : cs.length ≤ maxLen := hc.1
  unfold maxLen at hl
  clear hc
  go_enter Try.func5, Try.ntmps5
  go_wp2_with fail
  refine (first_any w).mono ?_
  rintro e w1 ⟨rfl, hB1⟩
  have HF := few_any a cap cs w.heap.size w1 (HC.out w1 hB1)
  have HB1 : Hid (Below w.heap.size w w1) := hB1
  clear hB1
  go_wp2_with fail
  refine HF.mono ?_
  rintro e w2 ⟨t, rfl, ht, q2, rfl⟩
  have HB2 : Hid (Below w.heap.size w (w1.drewN q2)) := Below.drewN' HB1.out q2
  clear HF
  by_cases hsm : t = true ∧ cs.length ≤ 200
  case neg =>
    cases t with
    | false =>
      go_wp2
      go_ret
      exact ⟨rfl, HB2.out⟩
    | true =>
      have hgt : (200 : Int) < (cs.length : Int) := by have : ¬ cs.length ≤ 200 := fun h => hsm ⟨rfl, h⟩; omega
      go_wp2
      go_ret
      exact ⟨rfl, HB2.out⟩
  case pos =>
    obtain ⟨rfl, hl2⟩ := hsm
    have hgt : decide ((200 : Int) < (cs.length : Int)) = false := by simp; omega
    obtain ⟨W2, HW2⟩ : ∃ W2, Hid (w1.drewN q2 = W2) := ⟨_, rfl⟩
    rw [HW2.out] at HB2 ⊢
    clear HW2 HB1 ht hl
    go_wp2_with fail
    refine (new_any W2).mono ?_
    rintro e W3 ⟨rfl, h3, hB3, hz3⟩
    have HU3 : Hid (Up w W3 (W2.heap.size + 2) W2.heap.size (W2.heap.size + 1) ⟨[], []⟩) := ⟨h3, HB2.out.trans (hB3.mono HB2.out.size), HB2.out.size, by have := HB2.out.size; omega⟩
    generalize W2.heap.size + 2 = b1 at *
    generalize W2.heap.size + 1 = s1 at *
    generalize W2.heap.size = p1 at *
    clear h3 hB3 hz3 HB2
    go_wp2_with fail
    refine (two_new HU3.out).mono ?_
    rintro e W4 ⟨b2, p2, s2, rfl, hT4, hB4⟩
    have HT4 : Hid (Two w W4 b1 p1 s1 ⟨[], []⟩ b2 p2 s2 ⟨[], []⟩) := hT4
    clear hT4 hB4 HU3
    have HRIS : Hid (∀ k : Nat, k ≤ 0 → Ris kS (runF ⟨[], []⟩ (cs.take k)).ss) := fun k hk => by
      have hk0 : k = 0 := by omega
      subst hk0
      exact List.Pairwise.nil
    go_wp2_with fail
    go_loopw [7] (fun iv wr => ∃ i : Nat, iv = .int .i64 (i : Int) ∧ i ≤ cs.length ∧ Two w wr b1 p1 s1 (runF ⟨[], []⟩ (cs.take i)) b2 p2 s2 (runF ⟨[], []⟩ (cs.take i)) ∧ (∀ k : Nat, k ≤ i → Ris kS (runF ⟨[], []⟩ (cs.take k)).ss)) (fun iv _ => cs.length - (intOf iv).toNat)
    case atStart => exact ⟨0, rfl, Nat.zero_le _, HT4.out, HRIS.out⟩
    case round =>
      obtain ⟨i, rfl, hi, hT, hris⟩ := hrel
      have HRI : Hid (∀ k : Nat, k ≤ i → Ris kS (runF ⟨[], []⟩ (cs.take k)).ss) := hris
      clear HT4 HRIS hris
      by_cases hlt : i < cs.length
      · have hlt' : (i : Int) < (cs.length : Int) := by omega
        have hi0 : (0 : Int) ≤ (i : Int) := by omega
        have HRK : Hid (runF ⟨[], []⟩ (cs.take (i + 1)) = (doF (runF ⟨[], []⟩ (cs.take i)) cs[i]).1) := runF_take hlt
        have HCA : Hid (∀ W, Below w.heap.size w W → ∃ g off, a = some ⟨g, off, none⟩ ∧ g < w.heap.size ∧ CmAt W g (off + i * 6) cs[i]) := fun W hB => by
          obtain ⟨g, off, h1, h2, h3, -⟩ := (HC.out W hB).at hlt
          exact ⟨g, off, h1, h2, h3⟩
        obtain ⟨g, off, hea, hg, -⟩ := HCA.out wr hT.u1.bel
        subst hea
        have HCB : Hid (∀ W, Below w.heap.size w W → CmAt W g (off + i * 6) cs[i]) := fun W hB => by
          obtain ⟨g', off', h1, h2, h3⟩ := HCA.out W hB
          cases h1
          exact h3
        have HRN : Hid (∀ K', (doF (runF ⟨[], []⟩ (cs.take i)) cs[i]).1 = K' → Ris kS K'.ss → ∀ k : Nat, k ≤ i + 1 → Ris kS (runF ⟨[], []⟩ (cs.take k)).ss) := fun K' h1 h2 k hk => by
          by_cases e : k = i + 1
          · subst e; rw [HRK.out, h1]; exact h2
          · exact HRI.out k (by omega)
        generalize runF ⟨[], []⟩ (cs.take i) = K at *
        have HTW : Hid (doF (doF K cs[i]).1 cs[i] = ((doF K cs[i]).1, (doF K cs[i]).2)) := twice K cs[i]
        generalize cs[i] = x at *
        clear HCA HRI
        obtain ⟨c0, c1, c2, c3, c4, c5⟩ := HCB.out wr hT.u1.bel
        have CD1 := up_do hT.u1 x
        have CD2 := fun W (h : Up w W b2 p2 s2 K) => up_do h x
        have CD3 := fun W (h : Up w W b2 p2 s2 (doF K x).1) => up_do h x
        rw [HTW.out] at CD3
        obtain ⟨op, cl, sq, ky, vl, od⟩ := x
        dsimp only at c0 c1 c2 c3 c4 c5 CD1 CD2 CD3
        generalize doF K ⟨op, cl, sq, ky, vl, od⟩ = dd at CD1 CD2 CD3 HRK HRN
        obtain ⟨K', rc', rv'⟩ := dd
        dsimp only at CD1 CD2 CD3 HRK HRN
        generalize Cm.ck ⟨op, cl, sq, ky, vl, od⟩ = ee at CD1 CD2 CD3
        have HD1 : Hid (Calls _ _ _ _ _) := CD1
        have HD2 : Hid (∀ W, Up w W b2 p2 s2 K → Calls _ _ _ W _) := CD2
        have HD3 : Hid (∀ W, Up w W b2 p2 s2 K' → Calls _ _ _ W _) := CD3
        have HT : Hid (Two w wr b1 p1 s1 K b2 p2 s2 K) := hT
        have lg : g < wr.heap.size := by have := hT.u1.bel.size; omega
        clear CD1 CD2 CD3 HTW hT
        go_wp2_with fail
        refine HD1.out.mono ?_
        rintro e W5 ⟨rfl, hU5, hk5, hO5⟩
        obtain ⟨W6, HW6⟩ : ∃ W6, Hid (W5.alloc (.cells #[.int .i64 rc', .string ⟨rv'.toArray⟩] 33) = W6) := ⟨_, rfl⟩
        have HT6 : Hid (Two w W6 b1 p1 s1 K' b2 p2 s2 K) := by rw [← HW6.out]; exact (HT.out.do1 hU5 hO5).alloc _
        have HA6 : Hid (Rb W6 W5.heap.size rc' rv') := by rw [← HW6.out]; exact Rb.new _ _ _
        clear hU5 hk5 hO5 HT HD1 c0 c1 c2 c3 c4 c5 lg
        obtain ⟨c0, c1, c2, c3, c4, c5⟩ := HCB.out W6 HT6.out.u1.bel
        dsimp only at c0 c1 c2 c3 c4 c5
        have lg : g < W6.heap.size := by have := HT6.out.u1.bel.size; omega
        go_upto_region 11 with fail
        rw [HW6.out]
        clear HW6
        go_wp2_with fail
        refine (HD2.out _ HT6.out.u2).mono ?_
        rintro e W7 ⟨rfl, hU7, hk7, hO7⟩
        obtain ⟨W8, HW8⟩ : ∃ W8, Hid (W7.alloc (.cells #[.int .i64 rc', .string ⟨rv'.toArray⟩] 33) = W8) := ⟨_, rfl⟩
        have HT8 : Hid (Two w W8 b1 p1 s1 K' b2 p2 s2 K') := by rw [← HW8.out]; exact (HT6.out.do2 hU7 hO7).alloc _
        have HA8 : Hid (Rb W8 W5.heap.size rc' rv') := by rw [← HW8.out]; exact (HA6.out.kpt hk7).alloc _
        have HE8 : Hid (Rb W8 W7.heap.size rc' rv') := by rw [← HW8.out]; exact Rb.new _ _ _
        clear hU7 hk7 hO7 HT6 HA6 HD2 c0 c1 c2 c3 c4 c5 lg
        obtain ⟨c0, c1, c2, c3, c4, c5⟩ := HCB.out W8 HT8.out.u1.bel
        dsimp only at c0 c1 c2 c3 c4 c5
        have lg : g < W8.heap.size := by have := HT8.out.u1.bel.size; omega
        go_upto_region 12 with fail
        rw [HW8.out]
        clear HW8
        go_wp2_with fail
        refine (HD3.out _ HT8.out.u2).mono ?_
        rintro e W9 ⟨rfl, hU9, hk9, hO9⟩
        obtain ⟨Wa, HWa⟩ : ∃ Wa, Hid (W9.alloc (.cells #[.int .i64 rc', .string ⟨rv'.toArray⟩] 33) = Wa) := ⟨_, rfl⟩
        have HTa : Hid (Two w Wa b1 p1 s1 K' b2 p2 s2 K') := by rw [← HWa.out]; exact (HT8.out.do2 hU9 hO9).alloc _
        have HAa : Hid (Rb Wa W5.heap.size rc' rv') := by rw [← HWa.out]; exact (HA8.out.kpt hk9).alloc _
        have HEa : Hid (Rb Wa W7.heap.size rc' rv') := by rw [← HWa.out]; exact (HE8.out.kpt hk9).alloc _
        have HFa : Hid (Rb Wa W9.heap.size rc' rv') := by rw [← HWa.out]; exact Rb.new _ _ _
        clear hU9 hk9 hO9 HT8 HA8 HE8 HD3 c0 c1 c2 c3 c4 c5 lg
        obtain ⟨m0, m1⟩ := HAa.out.cells
        obtain ⟨n0, n1⟩ := HEa.out.cells
        obtain ⟨o0, o1⟩ := HFa.out.cells
        go_upto_region 13 with fail
        rw [HWa.out]
        clear HWa HCB
        go_wp2_with (go_at_call 13; refine (num_any _ _).mono ?_; rintro e wz ⟨rfl, hz⟩; subst wz)
        go_roundw
        case rel => exact ⟨i + 1, by go_num, by omega, by rw [HRK.out]; exact HTa.out, HRN.out K' rfl HTa.out.u1.st.risS⟩
        case measure => simp [intOf]; omega
      · have hlt' : decide ((i : Int) < (cs.length : Int)) = false := by simp; omega
        obtain rfl : i = cs.length := by omega
        rw [List.take_length] at hT
        have HGD : Hid (∀ c ∈ cs, Good (runF ⟨[], []⟩ cs) c) := good_run cs _ HRI.out
        have HT : Hid (Two w wr b1 p1 s1 (runF ⟨[], []⟩ cs) b2 p2 s2 (runF ⟨[], []⟩ cs)) := hT
        have HKR : Hid (∀ c t, (t = true → ∃ s ∈ (runF ⟨[], []⟩ cs).ss, s.cl = c.cl ∧ c.sq < s.sq) → t = true → c.ck = 0 → (doF (runF ⟨[], []⟩ cs) c).2.code = 4) := fun c t h1 h2 h3 => by
          obtain ⟨s, g1, g2, g3⟩ := h1 h2
          exact old_code hT.u1.st.risS h3 g1 g2 g3
        have CH : Hid (∀ W c, Below w.heap.size w W → Calls Try.prog 20 #[.agg #[.int .i64 c.op, .int .i64 c.cl, .int .i64 c.sq, .string ⟨c.key.toArray⟩, .string ⟨c.val.toArray⟩, .string ⟨c.old.toArray⟩], .slice a cs.length cap] W fun e w' => HgR W (runF ⟨[], []⟩ cs) c e w') := fun W c hB => higher_any W c a cap cs ⟨(HC.out W hB).1, (HC.out W hB).2.1, (HC.out W hB).2.2.imp id (fun ⟨b, off, h1, h2, h3⟩ => ⟨b, off, h1, Nat.lt_of_lt_of_le h2 hB.size, h3⟩)⟩ (by omega)
        generalize runF ⟨[], []⟩ cs = K at *
        clear hT HRI
        have CS := snapshot_any HT.out.u1.st
        go_wp2_with fail
        refine CS.mono ?_
        rintro e V1 ⟨v1, rfl, hO1, hB1⟩
        obtain ⟨ta, tc, rfl, -, -⟩ := hO1.shape
        have HT1 : Hid (Two w V1 b1 p1 s1 K b2 p2 s2 K) := HT.out.below hB1
        have HO1 : Hid (Ow 0 V1 (.slice ta (snapB K).length tc) (snapB K)) := hO1.base (Nat.zero_le _)
        clear hO1 hB1 CS HT
        have CS := snapshot_any HT1.out.u2.st
        go_wp2_with fail
        refine CS.mono ?_
        rintro e V2 ⟨v2, rfl, hO2, hB2⟩
        obtain ⟨ua, uc, rfl, -, -⟩ := hO2.shape
        have HU2 : Hid (Up w V2 b1 p1 s1 K) := HT1.out.u1.below hB2
        have HO2 : Hid (Ow 0 V2 (.slice ta (snapB K).length tc) (snapB K)) := HO1.out.below hB2 (Nat.le_refl _)
        have CM := same_any V2.heap.size _ _ _ _ V2 (HO2.out.sl (Nat.le_refl _)) (hO2.sl (Nat.le_refl _))
        have HM : Hid (Calls _ _ _ _ _) := CM
        clear hO2 hB2 CS HT1 HO1 CM
        go_wp2_with fail
        refine HM.out.mono ?_
        rintro e V3 ⟨rfl, q3, rfl⟩
        have HU3 : Hid (Up w (V2.drewN q3) b1 p1 s1 K) := HU2.out.below (Below.drewN' (Below.refl _ _) _)
        have HO3 : Hid (Ow 0 (V2.drewN q3) (.slice ta (snapB K).length tc) (snapB K)) := HO2.out.below (Below.drewN' (Below.refl _ V2) q3) (Nat.le_refl _)
        clear HM HU2 HO2
        go_wp2_with fail
        go_loopw [16] (fun iv wp => ∃ i : Nat, iv = .int .i64 (i : Int) ∧ i ≤ cs.length ∧ Up w wp b1 p1 s1 K ∧ Ow 0 wp (.slice ta (snapB K).length tc) (snapB K)) (fun iv _ => cs.length - (intOf iv).toNat)
        case atStart => exact ⟨0, rfl, Nat.zero_le _, HU3.out, HO3.out⟩
        case round =>
          generalize hwp : wr = wp at *
          obtain ⟨i, rfl, hi, hU, hO⟩ := hrel
          have HU : Hid (Up w wp b1 p1 s1 K) := hU
          have HO : Hid (Ow 0 wp (.slice ta (snapB K).length tc) (snapB K)) := hO
          clear hU hO HU3 HO3
          by_cases hli : i < cs.length
          · have hli' : (i : Int) < (cs.length : Int) := by omega
            have hi0 : (0 : Int) ≤ (i : Int) := by omega
            obtain ⟨g, off, hea, hg, -, -⟩ := (HC.out wp HU.out.bel).at hli
            subst hea
            have HCA : Hid (∀ W, Below w.heap.size w W → ∀ k (hk : k < cs.length), CmAt W g (off + k * 6) cs[k]) := fun W hB k hk => by
              obtain ⟨g', off', h1, h2, h3, -⟩ := (HC.out W hB).at hk
              cases h1
              exact h3
            go_wp2_with fail
            go_loopw [17, 18] (fun lv kv wq => ∃ (t : Bool) (k : Nat), lv = .bool t ∧ kv = .int .i64 (k : Int) ∧ i + 1 ≤ k ∧ k ≤ cs.length ∧ Up w wq b1 p1 s1 K ∧ Ow 0 wq (.slice ta (snapB K).length tc) (snapB K)) (fun _ kv _ => cs.length - (intOf kv).toNat)
            case atStart => exact ⟨true, i + 1, rfl, by go_num, Nat.le_refl _, by omega, HU.out, HO.out⟩
            case round =>
              generalize hwq : wr = wq at *
              obtain ⟨t, k, rfl, rfl, hik, hk, hUq, hOq⟩ := hrel
              have HUq : Hid (Up w wq b1 p1 s1 K) := hUq
              have HOq : Hid (Ow 0 wq (.slice ta (snapB K).length tc) (snapB K)) := hOq
              have lgq : g < wq.heap.size := by have := hUq.bel.size; omega
              clear hUq hOq HU HO
              by_cases hkl : k < cs.length
              · have hkl' : (k : Int) < (cs.length : Int) := by omega
                have hk0 : (0 : Int) ≤ (k : Int) := by omega
                obtain ⟨-, c1, c2, -, -, -⟩ := HCA.out wq HUq.out.bel k hkl
                obtain ⟨-, e1, e2, -, -, -⟩ := HCA.out wq HUq.out.bel i hli
                generalize cs[k].cl = xc at *
                generalize cs[k].sq = xq at *
                generalize cs[i].cl = yc at *
                generalize cs[i].sq = yq at *
                cases t with
                | false =>
                  go_wp2_with fail
                  go_quiet (fail)
                  go_wp2
                  go_roundw
                  case rel => exact ⟨_, k + 1, rfl, by go_num, by omega, by omega, HUq.out.below (Below.drewN' (Below.refl _ _) _), HOq.out.below (Below.drewN' (Below.refl _ wq) _) (Nat.le_refl _)⟩
                  case measure => simp [intOf]; omega
                | true =>
                  by_cases he : xc = yc
                  · subst he
                    by_cases hq : xq ≤ yq
                    · go_wp2_with fail
                      go_quiet (fail)
                      go_wp2
                      go_roundw
                      case rel => exact ⟨_, k + 1, rfl, by go_num, by omega, by omega, HUq.out.below (Below.drewN' (Below.refl _ _) _), HOq.out.below (Below.drewN' (Below.refl _ wq) _) (Nat.le_refl _)⟩
                      case measure => simp [intOf]; omega
                    · have hq' : decide (xq ≤ yq) = false := by simp; omega
                      go_wp2_with fail
                      go_quiet (fail)
                      go_wp2
                      go_roundw
                      case rel => exact ⟨_, k + 1, rfl, by go_num, by omega, by omega, HUq.out.below (Below.drewN' (Below.refl _ _) _), HOq.out.below (Below.drewN' (Below.refl _ wq) _) (Nat.le_refl _)⟩
                      case measure => simp [intOf]; omega
                  · have he' : (xc != yc) = true := by simpa using he
                    have he2 : (xc == yc) = false := by simpa using he
                    go_wp2_with fail
                    go_quiet (fail)
                    go_wp2
                    go_roundw
                    case rel => exact ⟨_, k + 1, rfl, by go_num, by omega, by omega, HUq.out.below (Below.drewN' (Below.refl _ _) _), HOq.out.below (Below.drewN' (Below.refl _ wq) _) (Nat.le_refl _)⟩
                    case measure => simp [intOf]; omega
              · have hkl' : decide ((k : Int) < (cs.length : Int)) = false := by simp; omega
                obtain ⟨c0, c1, c2, c3, c4, c5⟩ := HCA.out wq HUq.out.bel i hli
                have HCI : Hid (∀ W, Below w.heap.size w W → CmAt W g (off + i * 6) cs[i]) := fun W hB => HCA.out W hB i hli
                have CD := up_do HUq.out cs[i]
                have HGK : Hid ((doF K cs[i]).1 = K) := good_same (HGD.out _ (List.getElem_mem hli))
                rw [HGK.out] at CD
                have HOLD : Hid (∀ t, (t = true → ∃ s ∈ K.ss, s.cl = cs[i].cl ∧ cs[i].sq < s.sq) → t = true → cs[i].ck = 0 → (doF K cs[i]).2.code = 4) := fun t h1 h2 h3 => HKR.out cs[i] t h1 h2 h3
                have CHI : Hid (∀ W, Below w.heap.size w W → Calls Try.prog 20 #[.agg #[.int .i64 cs[i].op, .int .i64 cs[i].cl, .int .i64 cs[i].sq, .string ⟨cs[i].key.toArray⟩, .string ⟨cs[i].val.toArray⟩, .string ⟨cs[i].old.toArray⟩], .slice (some ⟨g, off, none⟩) cs.length cap] W fun e w' => ∃ t, e = .returned (.bool t) ∧ (t = true → ∃ s ∈ K.ss, s.cl = cs[i].cl ∧ cs[i].sq < s.sq) ∧ Below W.heap.size W w') := fun W hB => CH.out W cs[i] hB
                clear HCA HGD HKR CH HGK
                generalize cs[i] = y at *
                obtain ⟨op, cl, sq, ky, vl, od⟩ := y
                dsimp only at c0 c1 c2 c3 c4 c5 CD HOLD CHI
                generalize doF K ⟨op, cl, sq, ky, vl, od⟩ = dd at CD HOLD
                obtain ⟨K', rc', rv'⟩ := dd
                dsimp only at CD HOLD
                generalize Cm.ck ⟨op, cl, sq, ky, vl, od⟩ = ee at CD HOLD
                have HD : Hid (Calls _ _ _ _ _) := CD
                clear CD
                go_wp2_with fail
                refine HD.out.mono ?_
                rintro e V6 ⟨rfl, hU6, hk6, hO6⟩
                obtain ⟨V7, HV7⟩ : ∃ V7, Hid (V6.alloc (.cells #[.int .i64 rc', .string ⟨rv'.toArray⟩] 33) = V7) := ⟨_, rfl⟩
                have HU7 : Hid (Up w V7 b1 p1 s1 K) := by rw [← HV7.out]; exact hU6.alloc _
                have HR7 : Hid (Rb V7 V6.heap.size rc' rv') := by rw [← HV7.out]; exact Rb.new _ _ _
                have HO7 : Hid (Ow 0 V7 (.slice ta (snapB K).length tc) (snapB K)) := by rw [← HV7.out]; exact (HOq.out.kpt hk6).alloc _
                clear hU6 hk6 hO6 HUq HOq HD c0 c1 c2 c3 c4 c5 lgq
                obtain ⟨c0, c1, c2, c3, c4, c5⟩ := HCI.out V7 HU7.out.bel
                dsimp only at c0 c1 c2 c3 c4 c5
                obtain ⟨m0, m1⟩ := HR7.out.cells
                have lg : g < V7.heap.size := by have := HU7.out.bel.size; omega
                replace CHI := CHI.out V7 HU7.out.bel
                have HH : Hid (Calls _ _ _ _ _) := CHI
                clear CHI HCI
                go_upto_region 26 with fail
                rw [HV7.out]
                clear HV7
                by_cases hee : ee = 0
                · subst hee
                  have HNO : Hid (∀ t, (t = true → ∃ s ∈ K.ss, s.cl = cl ∧ sq < s.sq) → rc' ≠ 4 → t = false) := fun t h1 h2 => by
                    cases t
                    · rfl
                    · exact absurd (HOLD.out true h1 rfl rfl) h2
                  clear HOLD
                  cases t with
                  | true =>
                    go_wp2_with (go_at_call 13; refine (num_any _ _).mono ?_; rintro e wz ⟨rfl, hz⟩; subst wz)
                    go_roundw
                    case rel => exact ⟨i + 1, by go_num, by omega, HU7.out, HO7.out⟩
                    case measure => simp [intOf]; omega
                  | false =>
                    by_cases h4 : rc' = 4
                    · subst h4
                      go_wp2_with (go_at_call 13; refine (num_any _ _).mono ?_; rintro e wz ⟨rfl, hz⟩; subst wz)
                      go_roundw
                      case rel => exact ⟨i + 1, by go_num, by omega, HU7.out, HO7.out⟩
                      case measure => simp [intOf]; omega
                    · have h4' : (rc' != 4) = true := by simpa using h4
                      have h4'' : (rc' == 4) = false := by simpa using h4
                      by_cases h5 : rc' = 5
                      · subst h5
                        go_wp2_with (go_at_call 13; refine (num_any _ _).mono ?_; rintro e wz ⟨rfl, hz⟩; subst wz)
                        go_roundw
                        case rel => exact ⟨i + 1, by go_num, by omega, HU7.out, HO7.out⟩
                        case measure => simp [intOf]; omega
                      · have h5' : (rc' != 5) = true := by simpa using h5
                        have h5'' : (rc' == 5) = false := by simpa using h5
                        go_wp2_with (first | (go_at_call 13; refine (num_any _ _).mono ?_; rintro e wz ⟨rfl, hz⟩; subst wz) | (go_at_call 20; refine HH.out.mono ?_; rintro e V8 ⟨tt, rfl, htt, hB8⟩; obtain rfl : tt = false := (HNO.out tt htt h4); have HU8 : Hid (Up w V8 b1 p1 s1 K) := HU7.out.below hB8; have HO8 : Hid (Ow 0 V8 (.slice ta (snapB K).length tc) (snapB K)) := HO7.out.below hB8 (Nat.le_refl _); clear htt hB8 HH))
                        go_roundw
                        case rel => exact ⟨i + 1, by go_num, by omega, HU8.out, HO8.out⟩
                        case measure => simp [intOf]; omega
                · have hne : ((ee : Int) != 0) = true := by simp; omega
                  go_wp2_with (go_at_call 13; refine (num_any _ _).mono ?_; rintro e wz ⟨rfl, hz⟩; subst wz)
                  go_roundw
                  case rel => exact ⟨i + 1, by go_num, by omega, HU7.out, HO7.out⟩
                  case measure => simp [intOf]; omega
          · have hli' : decide ((i : Int) < (cs.length : Int)) = false := by simp; omega
            have CS := snapshot_any HU.out.st
            go_wp2_with fail
            refine CS.mono ?_
            rintro e V4 ⟨v4, rfl, hO4, hB4⟩
            obtain ⟨xa, xc, rfl, -, -⟩ := hO4.shape
            have CM := same_any V4.heap.size _ _ _ _ V4 ((HO.out.below hB4 (Nat.le_refl _)).sl (Nat.le_refl _)) (hO4.sl (Nat.le_refl _))
            have HM : Hid (Calls _ _ _ _ _) := CM
            have HB4 : Hid (Below w.heap.size w V4) := HU.out.bel.trans (hB4.mono HU.out.bel.size)
            clear hO4 hB4 CS CM
            go_wp2_with fail
            refine HM.out.mono ?_
            rintro e V5 ⟨rfl, q5, rfl⟩
            go_wp2
            go_ret
            exact ⟨by simp, Below.drewN' HB4.out _⟩
end Go.Proofs.Ytglhjgfaelfleaa
