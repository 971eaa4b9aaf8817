/-
  DiskLoaded: the walk of the law.
-/
import Derived.Test.YtbjnhohfdpdcnaaLod
namespace Go.Proofs.Ytbjnhohfdpdcnaa
open Go.RowKit
set_option linter.unusedVariables false

theorem mem_sumF {f : Fl} : ∀ {fs : List Fl}, f ∈ fs → f.dat.length ≤ sumF fs
  | [], h => by simp at h
  | g :: r, h => by
    simp only [sumF, List.map_cons, List.sum_cons]
    rcases List.mem_cons.1 h with rfl | h
    · omega
    · have := mem_sumF h
      simp only [sumF] at this
      omega
theorem Dsk.drew {N : Nat} {S : Nat → Prop} {w : World} {d : Nat} {p : PD} (h : Dsk N w S d p) : Dsk N w.drew S d p := h.below ⟨rfl, rfl, rfl, Nat.le_refl _, fun _ _ => rfl⟩

/-- Two disks, told the same: each is the same behind it. -/
def Pair (N : Nat) (w0 w : World) (c d : Nat) (q : PD) : Prop := ∃ S1 S2, Dsk N w S1 c q ∧ Dsk N w S2 d q ∧ (∀ j, S1 j → ¬ S2 j) ∧ Below N w0 w
theorem Pair.mk2 {N : Nat} {S1 S2 : Nat → Prop} {w0 w w5 w6 : World} {c d : Nat} {p q : PD} (hB : Below N w0 w) (h2 : Dsk N w S2 d p) (ha : ∀ j, S1 j → ¬ S2 j) (hT1 : Then N S1 w w5 c q) (hT2 : Then N S2 w5 w6 d q) : Pair N w0 w6 c d q := by
  have hap : ∀ j, grew S1 w w5 j → ¬ grew S2 w5 w6 j := fun j hj hk => by
    rcases hk with hk | hk
    · rcases hj with hj | hj
      · exact ha j hj hk
      · have := h2.inn j hk; omega
    · have := hT1.dsk.inn j hj; omega
  exact ⟨_, _, hT1.dsk.out hT2.out (fun j hj hk => hap j hj (.inl hk)), hT2.dsk, hap, (hB.trans hT1.bel).trans hT2.bel⟩
theorem Pair.symm {N : Nat} {w0 w : World} {c d : Nat} {q : PD} (h : Pair N w0 w c d q) : Pair N w0 w d c q := by
  obtain ⟨S1, S2, h1, h2, h3, h4⟩ := h
  exact ⟨S2, S1, h2, h1, fun j hj hk => h3 j hk hj, h4⟩

set_option maxRecDepth 100000 in
set_option maxHeartbeats 20000000 in
theorem diskLoaded_walk (a b : Option Addr) (ca cb : Nat) (l m : List Opn) (w : World) (hl : OpsAt w.heap.size w a l) (hm : OpsAt w.heap.size w b m) (hll : l.length ≤ 9223372036854775807) (hlm : m.length ≤ 9223372036854775807) :
    Calls Try.prog 7 #[.slice a l.length ca, .slice b m.length cb] w fun e w' => e = .returned (.bool true) ∧ Below w.heap.size w w' := by
  have HL : Hid (OpsAt w.heap.size w a l) := hl
  have HM : Hid (OpsAt w.heap.size w b m) := hm
  clear hl hm
  go_enter Try.func7, Try.ntmps7
  go_wp2_with fail
  refine (first_any w).mono ?_
  rintro e w1 ⟨rfl, hB1⟩
  go_wp2_with fail
  refine (few_any a ca l w.heap.size w1 (HL.out.below hB1) hB1.size hll).mono ?_
  rintro e w2 ⟨⟨b1, rfl⟩, hB2⟩
  have HB2 : Hid (Below w.heap.size w w2) := hB1.trans (hB2.mono hB1.size)
  clear hB1 hB2
  cases b1 with
  | false =>
    go_wp2
    go_ret
    exact ⟨rfl, HB2.out⟩
  | true =>
  go_wp2_with fail
  refine (few_any b cb m w.heap.size w2 (HM.out.below HB2.out) HB2.out.size hlm).mono ?_
  rintro e w3 ⟨⟨b2, rfl⟩, hB3⟩
  have HB3 : Hid (Below w.heap.size w w3) := HB2.out.trans (hB3.mono HB2.out.size)
  clear hB3
  cases b2 with
  | false =>
    go_wp2
    go_ret
    exact ⟨rfl, HB3.out⟩
  | true =>
  go_wp2_with fail
  refine (made_any _ ca l w.heap.size w3 (HL.out.below HB3.out) HB3.out.size hll).mono ?_
  rintro e w4 ⟨d, S1, rfl, hD4, hB4⟩
  have HB4 : Hid (Below w.heap.size w w4) := HB3.out.trans (hB4.mono HB3.out.size)
  have hnok := made_names l
  obtain ⟨hrise, hsyn, hfew, hsum⟩ := hD4.shape
  generalize madeP l = p at *
  go_wp2_with fail
  refine (files_dsk hD4).mono ?_
  rintro e w5 ⟨fa0, fc0, fs0, rfl, hF0, hs0, hl0, hB5⟩
  have HB5 : Hid (Below w.heap.size w w5) := HB4.out.trans (hB5.mono HB4.out.size)
  have hlok := load_fine hs0 hrise hnok hsyn hfew hsum
  have hlsm := load_same hs0 hrise
  have hck0 : chkFls [] fs0 = 0 := by
    unfold loadE at hlok
    by_cases h0 : chkFls [] fs0 = 0
    · exact h0
    · rw [if_pos h0] at hlok; exact absurd hlok h0
  have hsf : sumF fs0 ≤ 16777216 := by
    unfold loadE at hlok
    rw [hck0] at hlok
    rw [if_neg (by simp)] at hlok
    split at hlok
    · simp at hlok
    · omega
  have hlp : loadP fs0 = ⟨p.fs.map calmP, 0, false⟩ := by
    show PD.mk (loadP fs0).fs 0 false = _
    rw [hlsm]
  have hload := load_any fa0 fc0 fs0 w5.heap.size w5 hF0 (Nat.le_refl _) (fun f hf => ⟨by have := mem_sumF hf; omega, by have := isNm_len (chkFls_ok hck0 f hf).1; unfold maxLen; omega⟩) (by omega) hlok
  rw [hlp] at hload
  go_wp2_with fail
  refine hload.mono ?_
  rintro e w6 ⟨c, Sc, rfl, hC6, hB6⟩
  have HB6 : Hid (Below w.heap.size w w6) := HB5.out.trans (hB6.mono HB5.out.size)
  have hD6 := (hD4.below hB5).below hB6
  have hS1 := hD4.inn
  have hSc := hC6.from
  have hz45 := hB5.size
  have hz56 := hB6.size
  have hz34 := hB4.size
  clear hload hlp hlsm hck0 hsf hF0 hlok hD4 hB4 hB5 hB6 hnok hs0
  go_wp2_with (go_at_call 18; refine (num_any _ _).mono ?_; rintro e wz ⟨rfl, hwz⟩; rw [hwz]; clear hwz)
  have hsc : (p.fs.map calmP).map PF.says = p.fs.map PF.says := by rw [List.map_map]; rfl
  go_wp2_with fail
  refine (files_dsk hC6).mono ?_
  rintro e w7a ⟨fa1, fc1, fs1, rfl, hF1, hs1, hl1, hb1a⟩
  go_wp2_with fail
  refine (files_dsk (hD6.below hb1a)).mono ?_
  rintro e w7b ⟨ga1, gc1, gs1, rfl, hG1, ht1, -, hb1b⟩
  have hsm1 := sameFiles_any fa1 ga1 fc1 gc1 fs1 gs1 w7b.heap.size w7b ((hF1.below hb1b).mono hb1b.size) hG1 (Nat.le_refl _) (by omega)
  rw [show decide (saysF fs1 = saysF gs1) = true from by rw [hs1, ht1, hsc]; simp] at hsm1
  go_wp2_with fail
  refine hsm1.mono ?_
  rintro e w7c ⟨rfl, hb1c⟩
  have hB7 := hb1a.trans ((hb1b.trans (hb1c.mono hb1b.size)).mono hb1a.size)
  have HB7 : Hid (Below w.heap.size w w7c) := HB6.out.trans (hB7.mono HB6.out.size)
  have hC7 := hC6.below hB7
  have hD7 := hD6.below hB7
  have hz67 := hB7.size
  clear hC6 hD6 hB7 hb1a hb1b hb1c hF1 hG1 hsm1
  go_wp2_with fail
  refine (crash_dsk hC7 (by omega) 5).mono ?_
  rintro e w8 ⟨rfl, hT8⟩
  rw [crash_calm] at hT8
  have hD8 := hD7.out hT8.out (fun j hj hs => by have := hS1 j hj; have := hSc j hs; omega)
  have HB8 : Hid (Below w.heap.size w w8) := HB7.out.trans (hT8.bel.mono (by have := HB4.out.size; omega))
  go_wp2_with fail
  refine (crash_dsk hD8 (by have := hT8.out.size; omega) 0).mono ?_
  rintro e w9 ⟨rfl, hT9⟩
  have hpair : Pair w.heap.size w w9 c d (doCrash p 0) := by
    have h3 := HB3.out.size
    refine Pair.mk2 (S1 := Sc) (S2 := S1) (w := w7c) (w5 := w8) (p := p) HB7.out ?_ (fun j hj hs => by have := hS1 j hs; have := hSc j hj; omega) ?_ ?_
    · obtain ⟨k, q1, q2, q3⟩ := hD7
      exact ⟨k, q1, q2, fun i hi => Nat.le_trans h3 (q3 i hi)⟩
    · obtain ⟨⟨k, q1, q2, q3⟩, q4, q5⟩ := hT8
      exact ⟨⟨k, q1, q2, fun i hi => Nat.le_trans (by omega) (q3 i hi)⟩, q4, q5.mono (by omega)⟩
    · obtain ⟨⟨k, q1, q2, q3⟩, q4, q5⟩ := hT9
      exact ⟨⟨k, q1, q2, fun i hi => Nat.le_trans (by omega) (q3 i hi)⟩, q4, q5.mono (by omega)⟩
  generalize doCrash p 0 = q at *
  clear hT8 hT9 hD8 hC7 hD7 hS1 hSc
  go_wp2_with fail
  go_loopw [11] (fun iv wr => ∃ (i : Nat), iv = .int .i64 (i : Int) ∧ i ≤ m.length ∧ Pair w.heap.size w wr c d (moreP q (m.take i))) (fun iv _ => m.length - (intOf iv).toNat)
  case atStart => exact ⟨0, rfl, Nat.zero_le _, hpair⟩
  case round =>
    obtain ⟨i, rfl, hi, S1', S2', hC, hD, hap, hB⟩ := hrel
    have HC : Hid (Dsk w.heap.size wr S1' c (moreP q (m.take i))) := hC
    have HD : Hid (Dsk w.heap.size wr S2' d (moreP q (m.take i))) := hD
    have HB : Hid (Below w.heap.size w wr) := hB
    have HA : Hid (∀ j, S1' j → ¬ S2' j) := hap
    by_cases hlt : i < m.length
    · obtain ⟨b2, o2, rfl, hb2, ho2⟩ := HM.out.at hlt
      have HO2 : Hid (OpAt w.heap.size w b2 (o2 + i * 5) (m.getD i nilOp)) := ho2
      have HMS : Hid (moreP q (m.take (i + 1)) = (toldP (moreP q (m.take i)) (m.getD i nilOp)).2) := moreP_step hlt
      generalize m.getD i nilOp = x2 at *
      obtain ⟨kd, n, nm, to, oa, oc, ob⟩ := x2
      have hdr : Below wr.heap.size wr wr.drew := ⟨rfl, rfl, rfl, Nat.le_refl _, fun _ _ => rfl⟩
      have HBd : Hid (Below w.heap.size w wr.drew) := hB.trans (hdr.mono hB.size)
      have HX : Hid (∀ w', Below w.heap.size w w' → (w'.cell? ⟨b2, o2 + i * 5, none⟩ = some (.int .i64 kd) ∧ w'.cell? ⟨b2, o2 + i * 5 + 1, none⟩ = some (.int .i64 n) ∧ w'.cell? ⟨b2, o2 + i * 5 + 2, none⟩ = some (.string ⟨nm.toArray⟩) ∧ w'.cell? ⟨b2, o2 + i * 5 + 3, none⟩ = some (.string ⟨to.toArray⟩) ∧ w'.cell? ⟨b2, o2 + i * 5 + 4, none⟩ = some (.slice oa ob.length oc))) := fun w' h9 => (HO2.out.below hb2 h9).1
      obtain ⟨g0, g1, g2, g3, g4⟩ := HX.out wr hB
      have hlt2 : (i : Int) < (m.length : Int) := by omega
      have HT : Hid (∀ {w' : World} {S : Nat → Prop} {x : Nat}, Below w.heap.size w w' → Dsk w.heap.size w' S x (moreP q (m.take i)) → Calls Try.prog 31 #[.pointer (some ⟨x, 0, none⟩), .agg #[.int .i64 kd, .int .i64 n, .string ⟨nm.toArray⟩, .string ⟨to.toArray⟩, .slice oa ob.length oc]] w' fun r w'' => r = .returned (.int .i64 ((toldP (moreP q (m.take i)) ⟨kd, n, nm, to, oa, oc, ob⟩).1 : Int)) ∧ Then w.heap.size S w' w'' x (toldP (moreP q (m.take i)) ⟨kd, n, nm, to, oa, oc, ob⟩).2) := fun {w' S x} q1 q2 => by
        obtain ⟨_, r0, r1, r2, r3⟩ := HO2.out.below hb2 q1
        exact told_dsk q2 q1.size ⟨kd, n, nm, to, oa, oc, ob⟩ r0 r1 r2 r3
      have hc1 := HT.out HBd.out HC.out.drew
      have hd1 := HT.out HBd.out HD.out.drew
      generalize (toldP (moreP q (m.take i)) ⟨kd, n, nm, to, oa, oc, ob⟩).1 = er at *
      generalize (toldP (moreP q (m.take i)) ⟨kd, n, nm, to, oa, oc, ob⟩).2 = qn at *
      clear ho2 hC hD hap hB hdr
      go_wp2_with fail
      go_region_held3 (fun w' => w'.cell? ⟨b2, o2 + i * 5, none⟩ = some (.int .i64 kd) ∧ w'.cell? ⟨b2, o2 + i * 5 + 1, none⟩ = some (.int .i64 n) ∧ w'.cell? ⟨b2, o2 + i * 5 + 2, none⟩ = some (.string ⟨nm.toArray⟩) ∧ w'.cell? ⟨b2, o2 + i * 5 + 3, none⟩ = some (.string ⟨to.toArray⟩) ∧ w'.cell? ⟨b2, o2 + i * 5 + 4, none⟩ = some (.slice oa ob.length oc)) (go_keep)
        (first
          | (go_at_call 31; (with_reducible refine hc1.mono ?_); rintro e w5 ⟨rfl, hT5⟩; have HB5x : Hid (Below w.heap.size w w5) := HBd.out.trans hT5.bel; obtain ⟨k0, k1, k2, k3, k4⟩ := HX.out w5 HB5x.out; have hd2 := HT.out HB5x.out (HD.out.drew.out hT5.out (fun j hj hs => HA.out j hs hj)); have HPr : Hid (∀ w6, Then w.heap.size S2' w5 w6 d qn → Pair w.heap.size w w6 c d qn) := fun w6 h9 => Pair.mk2 HBd.out HD.out.drew HA.out hT5 h9; clear hT5)
          | (go_at_call 31; (with_reducible refine hd1.mono ?_); rintro e w5 ⟨rfl, hT5⟩; have HB5x : Hid (Below w.heap.size w w5) := HBd.out.trans hT5.bel; obtain ⟨k0, k1, k2, k3, k4⟩ := HX.out w5 HB5x.out; have hc2 := HT.out HB5x.out (HC.out.drew.out hT5.out (fun j hj hs => HA.out j hj hs)); have HPr : Hid (∀ w6, Then w.heap.size S1' w5 w6 c qn → Pair w.heap.size w w6 c d qn) := fun w6 h9 => (Pair.mk2 HBd.out HC.out.drew (fun j hj hk => HA.out j hk hj) hT5 h9).symm; clear hT5)
          | (go_at_call 31; (with_reducible refine hd2.mono ?_); rintro e w6 ⟨rfl, hT6⟩; have hpr := HPr.out w6 hT6; have HB6x : Hid (Below w.heap.size w w6) := HB5x.out.trans hT6.bel; obtain ⟨y0, y1, y2, y3, y4⟩ := HX.out w6 HB6x.out; clear hT6)
          | (go_at_call 31; (with_reducible refine hc2.mono ?_); rintro e w6 ⟨rfl, hT6⟩; have hpr := HPr.out w6 hT6; have HB6x : Hid (Below w.heap.size w w6) := HB5x.out.trans hT6.bel; obtain ⟨y0, y1, y2, y3, y4⟩ := HX.out w6 HB6x.out; clear hT6)
          | fail)
      all_goals (go_wp2; exact ⟨⟨i + 1, by go_num, by omega, by rw [HMS.out]; exact hpr⟩, by simp [intOf]; omega⟩)
    · clear hC hD hap hB
      go_wp2_with fail
      refine (files_dsk HC.out).mono ?_
      rintro e w12a ⟨fa2, fc2, fs2, rfl, hF2, hs2, hl2, hb2a⟩
      go_wp2_with fail
      refine (files_dsk (HD.out.below hb2a)).mono ?_
      rintro e w12b ⟨ga2, gc2, gs2, rfl, hG2, ht2, -, hb2b⟩
      have hsm2 := sameFiles_any fa2 ga2 fc2 gc2 fs2 gs2 w12b.heap.size w12b ((hF2.below hb2b).mono hb2b.size) hG2 (Nat.le_refl _) (by omega)
      rw [show decide (saysF fs2 = saysF gs2) = true from by rw [hs2, ht2]; simp] at hsm2
      go_wp2_with fail
      refine hsm2.mono ?_
      rintro e w12c ⟨rfl, hb2c⟩
      have hB12 := hb2a.trans ((hb2b.trans (hb2c.mono hb2b.size)).mono hb2a.size)
      have HB12 : Hid (Below w.heap.size w w12c) := HB.out.trans (hB12.mono HB.out.size)
      have hC12 := HC.out.below hB12
      have hD12 := HD.out.below hB12
      clear hb2a hb2b hb2c hF2 hG2 hsm2 hB12
      go_wp2_with fail
      refine (down_dsk hC12).mono ?_
      rintro e wz ⟨rfl, hwz⟩
      rw [hwz]
      clear hwz
      go_wp2_with fail
      refine (down_dsk hD12).mono ?_
      rintro e wz ⟨rfl, hwz⟩
      rw [hwz]
      clear hwz
      go_wp2_with fail
      refine (size_dsk hC12).mono ?_
      rintro e w13 ⟨rfl, hB13⟩
      go_wp2_with fail
      refine (size_dsk (hD12.below hB13)).mono ?_
      rintro e w14 ⟨rfl, hB14⟩
      go_wp2
      go_ret
      exact ⟨by simp, HB12.out.trans ((hB13.trans (hB14.mono hB13.size)).mono HB12.out.size)⟩

end Go.Proofs.Ytbjnhohfdpdcnaa
