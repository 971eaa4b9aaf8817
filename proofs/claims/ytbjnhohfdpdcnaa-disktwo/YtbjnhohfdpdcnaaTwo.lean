/-
  DiskTwo: the walk of the law.
-/
import Derived.Test.YtbjnhohfdpdcnaaFir
namespace Go.Proofs.Ytbjnhohfdpdcnaa
open Go.RowKit
set_option linter.unusedVariables false

theorem take_long {os : List Opn} {i : Nat} (h : ¬ i < os.length) : os.take (i + 1) = os.take i := by
  rw [List.take_of_length_le (by omega), List.take_of_length_le (by omega)]

set_option maxRecDepth 100000 in
set_option maxHeartbeats 20000000 in
theorem diskTwo_walk (a b : Option Addr) (ca cb : Nat) (l m : List Opn) (w : World) (hl : OpsAt w.heap.size w a l) (hm : OpsAt w.heap.size w b m) (hll : l.length ≤ 9223372036854775807) (hlm : m.length ≤ 9223372036854775807) :
    Calls Try.prog 8 #[.slice a l.length ca, .slice b m.length cb] w fun e w' => e = .returned (.bool true) ∧ Below w.heap.size w w' := by
  have HL : Hid (OpsAt w.heap.size w a l) := hl
  have HM : Hid (OpsAt w.heap.size w b m) := hm
  clear hl hm
  go_enter Try.func8, Try.ntmps8
  go_wp2_with fail
  refine (first_any w).mono ?_
  rintro e w1 ⟨rfl, hB1⟩
  go_wp2_with fail
  refine (few_any a ca l w.heap.size w1 (HL.out.below hB1) hB1.size hll).mono ?_
  rintro e w2 ⟨⟨b1, rfl⟩, hB2⟩
  have HB2 : Hid (Below w.heap.size w w2) := hB1.trans (hB2.mono hB1.size)
  clear hB1 hB2
  cases b1 with
  | false =>
    go_wp2
    go_ret
    exact ⟨rfl, HB2.out⟩
  | true =>
  go_wp2_with fail
  refine (few_any b cb m w.heap.size w2 (HM.out.below HB2.out) HB2.out.size hlm).mono ?_
  rintro e w3 ⟨⟨b2, rfl⟩, hB3⟩
  have HB3 : Hid (Below w.heap.size w w3) := HB2.out.trans (hB3.mono HB2.out.size)
  clear hB3
  cases b2 with
  | false =>
    go_wp2
    go_ret
    exact ⟨rfl, HB3.out⟩
  | true =>
  go_wp2_with fail
  refine (new_dsk w.heap.size w3 HB3.out.size).mono ?_
  rintro e w4 ⟨rfl, hd4, hB4⟩
  have HB4 : Hid (Below w.heap.size w w4) := HB3.out.trans (hB4.mono HB3.out.size)
  go_wp2_with fail
  refine (new_dsk w.heap.size w4 HB4.out.size).mono ?_
  rintro e w5 ⟨rfl, hd5, hB5⟩
  have HB5 : Hid (Below w.heap.size w w5) := HB4.out.trans (hB5.mono HB4.out.size)
  have hd4' := hd4.below hB5
  obtain ⟨da, hda⟩ : ∃ da, w3.heap.size + 1 = da := ⟨_, rfl⟩
  obtain ⟨db, hdb⟩ : ∃ db, w4.heap.size + 1 = db := ⟨_, rfl⟩
  have HAP : Hid (∀ i, (w3.heap.size ≤ i ∧ i < w3.heap.size + 2) → ¬ (w4.heap.size ≤ i ∧ i < w4.heap.size + 2)) := fun i h1 h2 => by have := hd4.inn i h1; omega
  rw [hda] at hd4' ⊢
  rw [hdb] at hd5 ⊢
  clear hda hdb hd4 hB4 hB5
  go_wp2_with fail
  go_loopw [9] (fun iv wr => ∃ (i : Nat) (S1 S2 : Nat → Prop), iv = .int .i64 (i : Int) ∧ (i ≤ l.length ∨ i ≤ m.length) ∧ Dsk w.heap.size wr S1 da (madeP (l.take i)) ∧ Dsk w.heap.size wr S2 db (madeP (m.take i)) ∧ (∀ j, S1 j → ¬ S2 j) ∧ Below w.heap.size w wr) (fun iv _ => l.length + m.length - (intOf iv).toNat)
  case atStart => exact ⟨0, _, _, rfl, .inl (Nat.zero_le _), hd4', hd5, HAP.out, HB5.out⟩
  case round =>
    obtain ⟨i, S1, S2, rfl, hi, hD1, hD2, hap, hB⟩ := hrel
    have HB : Hid (Below w.heap.size w wr) := hB
    have HD1 : Hid (Dsk w.heap.size wr S1 da (madeP (l.take i))) := hD1
    have HD2 : Hid (Dsk w.heap.size wr S2 db (madeP (m.take i))) := hD2
    have HA : Hid (∀ j, S1 j → ¬ S2 j) := hap
    clear hD1 hD2 hap hB
    by_cases h1 : i < l.length
    · have h1i : (i : Int) < (l.length : Int) := by omega
      obtain ⟨b1, o1, rfl, hb1, ho1⟩ := HL.out.at h1
      obtain ⟨⟨c0, c1, c2, c3, c4⟩, q0, q1, q2, q3⟩ := ho1.below hb1 HB.out
      have ht1 := told_dsk HD1.out HB.out.size (l.getD i nilOp) q0 q1 q2 q3
      have HM1 : Hid (madeP (l.take (i + 1)) = (toldP (madeP (l.take i)) (l.getD i nilOp)).2) := madeP_step h1
      generalize l.getD i nilOp = o1 at *
      obtain ⟨kd, n, nm, to, oa, oc, ob⟩ := o1
      unfold Opn.x at c4 ht1
      simp only at c0 c1 c2 c3 c4 ht1
      clear ho1 q0 q1 q2 q3
      by_cases h2 : i < m.length
      · have h2i : (i : Int) < (m.length : Int) := by omega
        obtain ⟨b2, o2, rfl, hb2, ho2⟩ := HM.out.at h2
        have HO2 : Hid (OpAt w.heap.size w b2 (o2 + i * 5) (m.getD i nilOp)) := ho2
        have HM2 : Hid (madeP (m.take (i + 1)) = (toldP (madeP (m.take i)) (m.getD i nilOp)).2) := madeP_step h2
        generalize m.getD i nilOp = x2 at *
        obtain ⟨kd2, n2, nm2, to2, oa2, oc2, ob2⟩ := x2
        clear ho2
        go_wp2_with (first
          | (go_at_call 31; refine ht1.mono ?_; rintro e w6 ⟨rfl, hT1⟩; have HB6 : Hid (Below w.heap.size w w6) := HB.out.trans hT1.bel; have hD2 := HD2.out.out hT1.out (fun j hj hs => HA.out j hs hj); have HT1 : Hid (Then w.heap.size S1 wr w6 da (toldP (madeP (l.take i)) ⟨kd, n, nm, to, oa, oc, ob⟩).2) := hT1; obtain ⟨⟨g0, g1, g2, g3, g4⟩, r0, r1, r2, r3⟩ := HO2.out.below hb2 HB6.out; have ht2 := told_dsk hD2 HB6.out.size ⟨kd2, n2, nm2, to2, oa2, oc2, ob2⟩ r0 r1 r2 r3; unfold Opn.x at g4 ht2; simp only at g0 g1 g2 g3 g4 ht2; clear hT1 r0 r1 r2 r3 ht1 c0 c1 c2 c3 c4)
          | (go_at_call 31; refine ht2.mono ?_; rintro e w7 ⟨rfl, hT2⟩))
        have hap7 : ∀ j, grew S1 wr w6 j → ¬ grew S2 w6 w7 j := fun j hj hk => by
          rcases hk with hk | hk
          · rcases hj with hj | hj
            · exact HA.out j hj hk
            · have := HD2.out.inn j hk; omega
          · have := HT1.out.dsk.inn j hj; omega
        exact ⟨⟨i + 1, _, _, by go_num, .inl (by omega), by rw [HM1.out]; exact HT1.out.dsk.out hT2.out (fun j hj hk => hap7 j hj (.inl hk)), by rw [HM2.out]; exact hT2.dsk, hap7, HB6.out.trans hT2.bel⟩, by simp [intOf]; omega⟩
      · have h2i : decide ((i : Int) < (m.length : Int)) = false := by simp; omega
        have HM2 : Hid (m.take (i + 1) = m.take i) := take_long h2
        go_wp2_with (go_at_call 31; refine ht1.mono ?_; rintro e w6 ⟨rfl, hT1⟩)
        have hD2 := HD2.out.out hT1.out (fun j hj hs => HA.out j hs hj)
        exact ⟨⟨i + 1, _, _, by go_num, .inl (by omega), by rw [HM1.out]; exact hT1.dsk, by rw [HM2.out]; exact hD2, fun j hj hk => by
          rcases hj with hj | hj
          · exact HA.out j hj hk
          · have := HD2.out.inn j hk; omega, HB.out.trans hT1.bel⟩, by simp [intOf]; omega⟩
    · have h1i : decide ((i : Int) < (l.length : Int)) = false := by simp; omega
      have HM1 : Hid (l.take (i + 1) = l.take i) := take_long h1
      by_cases h2 : i < m.length
      · have h2i : (i : Int) < (m.length : Int) := by omega
        obtain ⟨b2, o2, rfl, hb2, ho2⟩ := HM.out.at h2
        obtain ⟨⟨c0, c1, c2, c3, c4⟩, q0, q1, q2, q3⟩ := ho2.below hb2 HB.out
        have ht1 := told_dsk HD2.out HB.out.size (m.getD i nilOp) q0 q1 q2 q3
        have HM2 : Hid (madeP (m.take (i + 1)) = (toldP (madeP (m.take i)) (m.getD i nilOp)).2) := madeP_step h2
        generalize m.getD i nilOp = o1 at *
        obtain ⟨kd, n, nm, to, oa, oc, ob⟩ := o1
        unfold Opn.x at c4 ht1
        simp only at c0 c1 c2 c3 c4 ht1
        clear ho2 q0 q1 q2 q3
        go_wp2_with (go_at_call 31; refine ht1.mono ?_; rintro e w6 ⟨rfl, hT1⟩)
        have hD1 := HD1.out.out hT1.out (fun j hj hs => HA.out j hj hs)
        exact ⟨⟨i + 1, _, _, by go_num, .inr (by omega), by rw [HM1.out]; exact hD1, by rw [HM2.out]; exact hT1.dsk, fun j hj hk => by
          rcases hk with hk | hk
          · exact HA.out j hj hk
          · have := HD1.out.inn j hj; omega, HB.out.trans hT1.bel⟩, by simp [intOf]; omega⟩
      · have h2i : decide ((i : Int) < (m.length : Int)) = false := by simp; omega
        have HE1 : Hid (Dsk w.heap.size wr S1 da (madeP l)) := by have := HD1.out; rwa [List.take_of_length_le (by omega)] at this
        have HE2 : Hid (Dsk w.heap.size wr S2 db (madeP m)) := by have := HD2.out; rwa [List.take_of_length_le (by omega)] at this
        clear HD1 HD2
        go_wp2_with fail
        refine (made_any _ ca l w.heap.size wr (HL.out.below HB.out) HB.out.size hll).mono ?_
        rintro e w6 ⟨dx, Sx, rfl, hx6, hB6⟩
        have HB6 : Hid (Below w.heap.size w w6) := HB.out.trans (hB6.mono HB.out.size)
        go_wp2_with fail
        refine (made_any _ cb m w.heap.size w6 (HM.out.below HB6.out) HB6.out.size hlm).mono ?_
        rintro e w7 ⟨dy, Sy, rfl, hy7, hB7⟩
        have HB7 : Hid (Below w.heap.size w w7) := HB6.out.trans (hB7.mono HB6.out.size)
        have hA := (HE1.out.below hB6).below hB7
        have hX := hx6.below hB7
        have hBB := (HE2.out.below hB6).below hB7
        have hS1 := HE1.out.inn
        have hSx := hx6.from
        have hz6 := hB6.size
        have hz7 := hB7.size
        clear hB6 hB7 hx6
        go_wp2_with fail
        refine (files_dsk hA).mono ?_
        rintro e w8a ⟨fa1, fc1, fs1, rfl, hF1, hs1, hl1, hb1a⟩
        go_wp2_with fail
        refine (files_dsk (hX.below hb1a)).mono ?_
        rintro e w8b ⟨ga1, gc1, gs1, rfl, hG1, ht1, -, hb1b⟩
        have hsm1 := sameFiles_any fa1 ga1 fc1 gc1 fs1 gs1 w8b.heap.size w8b ((hF1.below hb1b).mono hb1b.size) hG1 (Nat.le_refl _) (by omega)
        rw [show decide (saysF fs1 = saysF gs1) = true from by rw [hs1, ht1]; simp] at hsm1
        go_wp2_with fail
        refine hsm1.mono ?_
        rintro e w8c ⟨rfl, hb1c⟩
        have hB8 := hb1a.trans ((hb1b.trans (hb1c.mono hb1b.size)).mono hb1a.size)
        have HB8 : Hid (Below w.heap.size w w8c) := HB7.out.trans (hB8.mono HB7.out.size)
        have hA8 := hA.below hB8
        have hX8 := hX.below hB8
        have hBB8 := hBB.below hB8
        have hy8 := hy7.below hB8
        have hz8 := hB8.size
        clear hA hX hBB hy7 hB8 hb1a hb1b hb1c hF1 hG1
        go_wp2_with fail
        refine (down_dsk hA8).mono ?_
        rintro e wz ⟨rfl, rfl⟩
        go_wp2_with fail
        refine (down_dsk hX8).mono ?_
        rintro e wz ⟨rfl, rfl⟩
        go_wp2_with fail
        refine (files_dsk hBB8).mono ?_
        rintro e w9a ⟨fa2, fc2, fs2, rfl, hF2, hs2, hl2, hb2a⟩
        go_wp2_with fail
        refine (files_dsk (hy8.below hb2a)).mono ?_
        rintro e w9b ⟨ga2, gc2, gs2, rfl, hG2, ht2, -, hb2b⟩
        have hsm2 := sameFiles_any fa2 ga2 fc2 gc2 fs2 gs2 w9b.heap.size w9b ((hF2.below hb2b).mono hb2b.size) hG2 (Nat.le_refl _) (by omega)
        rw [show decide (saysF fs2 = saysF gs2) = true from by rw [hs2, ht2]; simp] at hsm2
        go_wp2_with fail
        refine hsm2.mono ?_
        rintro e w9c ⟨rfl, hb2c⟩
        have hB9 := hb2a.trans ((hb2b.trans (hb2c.mono hb2b.size)).mono hb2a.size)
        have HB9 : Hid (Below w.heap.size w w9c) := HB8.out.trans (hB9.mono HB8.out.size)
        have hA9 := hA8.below hB9
        have hX9 := hX8.below hB9
        have hBB9 := hBB8.below hB9
        have hy9 := hy8.below hB9
        have hz9 := hB9.size
        clear hA8 hX8 hBB8 hy8 hB9 hb2a hb2b hb2c hF2 hG2
        go_wp2_with fail
        refine (down_dsk hBB9).mono ?_
        rintro e wz ⟨rfl, rfl⟩
        go_wp2_with fail
        refine (down_dsk hy9).mono ?_
        rintro e wz ⟨rfl, rfl⟩
        go_wp2_with fail
        refine (crash_dsk hA9 HB9.out.size 3).mono ?_
        rintro e w10 ⟨rfl, hT10⟩
        have hX10 := hX9.out hT10.out (fun j hj hs => by have := hS1 j hs; have := hSx j hj; omega)
        have HB10 : Hid (Below w.heap.size w w10) := HB9.out.trans hT10.bel
        go_wp2_with fail
        refine (crash_dsk hX10 (by have := hT10.out.size; omega) 3).mono ?_
        rintro e w11 ⟨rfl, hT11⟩
        have hA11 := hT10.dsk.out hT11.out (fun j hj hs => by
          rcases hj with hj | hj
          · have := hS1 j hj; have := hSx j hs; omega
          · have := hX9.inn j hs; omega)
        have hX11 := hT11.dsk
        have HB11 : Hid (Below w.heap.size w w11) := HB10.out.trans (hT11.bel.mono HB.out.size)
        clear hT10 hT11 hX10 hX9 hA9
        go_wp2_with fail
        refine (files_dsk hA11).mono ?_
        rintro e w12a ⟨fa3, fc3, fs3, rfl, hF3, hs3, hl3, hb3a⟩
        go_wp2_with fail
        refine (files_dsk (hX11.below hb3a)).mono ?_
        rintro e w12b ⟨ga3, gc3, gs3, rfl, hG3, ht3, -, hb3b⟩
        have hsm3 := sameFiles_any fa3 ga3 fc3 gc3 fs3 gs3 w12b.heap.size w12b ((hF3.below hb3b).mono hb3b.size) hG3 (Nat.le_refl _) (by omega)
        rw [show decide (saysF fs3 = saysF gs3) = true from by rw [hs3, ht3]; simp] at hsm3
        go_wp2_with fail
        refine hsm3.mono ?_
        rintro e w12c ⟨rfl, hb3c⟩
        have hB12 := hb3a.trans ((hb3b.trans (hb3c.mono hb3b.size)).mono hb3a.size)
        go_wp2
        go_ret
        exact ⟨by simp, HB11.out.trans (hB12.mono HB11.out.size)⟩

end Go.Proofs.Ytbjnhohfdpdcnaa
