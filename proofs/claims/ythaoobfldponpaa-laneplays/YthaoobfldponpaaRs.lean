/-
  rest: are lanes what lists say?
-/
import Derived.Test.YthaoobfldponpaaSm
namespace Go.Proofs.Ythaoobfldponpaa
open Go.RowKit
set_option linter.unusedVariables false

set_option maxRecDepth 100000 in
set_option maxHeartbeats 8000000 in
theorem rest_any {N : Nat} {S S' : Nat → Prop} {w : World} {d m n R nx : Nat} {vs : Nat → Value} {ls : Nat → List Int} (h : LM N S S' w d m n R nx vs ls ls) :
    Calls Try.prog 23 #[.pointer (some ⟨d, 0, none⟩), .slice (some ⟨m, 0, none⟩) n n, .int .i64 (n : Int)] w fun e w' => e = .returned (.bool true) ∧ Below w.heap.size w w' := by
  have HM : Hid (∀ w', Below w.heap.size w w' → LM N S S' w' d m n R nx vs ls ls) := fun w' hB => h.below hB
  have hnum := h.la.nums
  have HNUM : Hid _ := hnum
  have HT : Hid (∀ k, k ≤ n → tot ls k ≤ 4096) := fun k hk => by
    have h1 := tot_le (ls := ls) (room := 64) (n := k) (fun i hi => Nat.le_trans (hnum.2 i (by omega)).1 (hnum.2 i (by omega)).2)
    have := hnum.1
    omega
  have hn64 : n ≤ 64 := hnum.1.2.1
  clear h hnum
  go_enter Try.func23, Try.ntmps23
  go_wp2
  go_loopw [7, 8] (fun nv iv wr => ∃ i : Nat, nv = .int .i64 (tot ls i : Int) ∧ iv = .int .i64 (i : Int) ∧ i ≤ n ∧ Below w.heap.size w wr) (fun _ iv _ => n - (intOf iv).toNat)
  case atStart => exact ⟨0, rfl, rfl, Nat.zero_le _, Below.refl _ _⟩
  case round =>
    obtain ⟨i, rfl, rfl, hi, hB⟩ := hrel
    have HB : Hid (Below w.heap.size w wr) := hB
    clear hB
    generalize wr = wp at *
    by_cases hin : i < n
    · have hin' : (i : Int) < (n : Int) := by omega
      have HMp : Hid (LM N S S' wp d m n R nx vs ls ls) := HM.out wp HB.out
      obtain ⟨aJ, cJ, hvJ, -⟩ := HMp.out.mx.row hin
      have hlJ : (ls i).length ≤ 64 := by have := HNUM.out.2 i hin; omega
      have HROW : Hid (∀ w', Below wp.heap.size wp w' → w'.cell? ⟨m, i, none⟩ = some (.slice aJ (ls i).length cJ) ∧ Sl w'.heap.size w' (.slice aJ (ls i).length cJ) (ls i)) := fun w' hB' => by
        have hm' := HMp.out.mx.below hB'
        obtain ⟨m1, -⟩ := hm'.cell hin
        rw [hvJ] at m1
        have hr := (hm'.rows i hin).1
        rw [hvJ] at hr
        exact ⟨m1, hr.sl (Nat.le_refl _)⟩
      obtain ⟨T0, HT0⟩ : ∃ T0, Hid (tot ls i = T0) := ⟨_, rfl⟩
      obtain ⟨T1, HT1⟩ : ∃ T1, Hid (tot ls (i + 1) = T1) := ⟨_, rfl⟩
      have hwT : IntKind.i64.wrap ((T0 : Int) + ((ls i).length : Int)) = (T1 : Int) := by
        have e : tot ls (i + 1) = tot ls i + (ls i).length := rfl
        have h2 := HT.out (i + 1) (by omega)
        rw [IntKind.wrap_i64]
        rw [HT1.out, HT0.out] at e
        rw [HT1.out] at h2
        omega
      rw [HT0.out]
      clear hvJ
      go_wp2_with fail
      refine (litems_any HMp.out.la i hin).mono ?_
      rintro e w1 ⟨v1, rfl, ho1, hB1⟩
      obtain ⟨a1, c1, rfl, -, -⟩ := ho1.shape
      have hs1 := same_any w1.heap.size _ _ _ _ w1 (ho1.sl (Nat.le_refl _)) (HROW.out w1 hB1).2
      rw [decide_eq_true (rfl : ls i = ls i)] at hs1
      have mc1 := (HROW.out w1 hB1).1
      have HO1 : Hid (Ow wp.heap.size w1 (.slice a1 (ls i).length c1) (ls i)) := ho1
      have HB1 : Hid (Below wp.heap.size wp w1) := hB1
      clear ho1 hB1
      go_wp2_with fail
      refine hs1.mono ?_
      rintro e w2 ⟨rfl, q2, hw2⟩
      have HO2 : Hid (Ow wp.heap.size w2 (.slice a1 (ls i).length c1) (ls i)) := by rw [hw2]; exact HO1.out.out (X := fun _ => False) (Out.drew w1 q2) (fun _ _ hf => hf)
      have HB2 : Hid (Below wp.heap.size wp w2) := by rw [hw2]; exact HB1.out.trans ((Out.drew (X := fun _ => False) w1 q2).below HB1.out.size (fun _ h => h.elim))
      clear hw2 hs1 HO1 HB1 mc1
      go_wp2
      go_loopw [11] (fun kv wr => ∃ (k : Nat) (l' : List Int), kv = .int .i64 (k : Int) ∧ k ≤ (ls i).length ∧ l'.length = (ls i).length ∧ Ow wp.heap.size wr (.slice a1 (ls i).length c1) l' ∧ Below wp.heap.size wp wr) (fun kv _ => (ls i).length - (intOf kv).toNat)
      case atStart => exact ⟨0, ls i, rfl, Nat.zero_le _, rfl, HO2.out, HB2.out⟩
      case round =>
        obtain ⟨k, l', rfl, hk, hl', ho, hB⟩ := hrel
        have HO : Hid (Ow wp.heap.size wr (.slice a1 (ls i).length c1) l') := ho
        have HB' : Hid (Below wp.heap.size wp wr) := hB
        have HL' : Hid (l'.length = (ls i).length) := hl'
        clear ho hB hl' HO2 HB2
        by_cases hkl : k < (ls i).length
        · have hkl' : (k : Int) < ((ls i).length : Int) := by omega
          obtain ⟨g, c, hv, hgN, hcell, hfz⟩ := HO.out.at0 (by rw [HL'.out]; omega)
          rw [HL'.out] at hv
          cases hv
          have d0 := hcell k (by rw [HL'.out]; exact hkl)
          have d1 := hfz k
          have HP : Hid (Ow wp.heap.size (wr.setCell ⟨g, k, none⟩ (.int .i64 (-5))) (.slice (some ⟨g, 0, none⟩) (ls i).length c1) (l'.set k (-5))) := HO.out.poke k (-5)
          have HBP : Hid (Below wp.heap.size wp (wr.setCell ⟨g, k, none⟩ (.int .i64 (-5)))) := HB'.out.trans ((Out.set (X := fun j => j = g) rfl).below HB'.out.size (fun j hj => by omega))
          clear hcell hfz
          go_wp2
          exact ⟨⟨k + 1, l'.set k (-5), by go_num, by omega, by rw [List.length_set]; exact HL'.out, HP.out, HBP.out⟩, by simp [intOf]; omega⟩
        · have hkl' : decide ((k : Int) < ((ls i).length : Int)) = false := by simp; omega
          have mc := (HROW.out wr HB'.out).1
          have HI : Hid (∀ wq, Below wp.heap.size wp wq → Calls Try.prog 29 #[.pointer (some ⟨d, 0, none⟩), .int .i64 (i : Int)] wq fun e w' => ∃ v', e = .returned v' ∧ Ow 0 w' v' (ls i) ∧ Below wp.heap.size wp w') := fun wq hq => (litems_any (HMp.out.below hq).la i hin).mono (fun e w' ⟨v', h1, h2, h3⟩ => ⟨v', h1, h2.base (Nat.zero_le _), hq.trans (h3.mono hq.size)⟩)
          have HSM : Hid (∀ w5 v5, Ow 0 w5 v5 (ls i) → Below wp.heap.size wp w5 → w5.cell? ⟨m, i, none⟩ = some (.slice aJ (ls i).length cJ) ∧ ∀ wq, wq.heap = w5.heap → Calls Try.prog 18 #[v5, .slice aJ (ls i).length cJ] wq fun e w' => e = .returned (.bool true) ∧ ∃ n, w' = wq.drewN n) := fun w5 v5 h5 hB5 => by
            refine ⟨(HROW.out w5 hB5).1, fun wq hq => ?_⟩
            have hsl1 := h5.sl (Nat.le_refl _)
            have hsl2 := (HROW.out w5 hB5).2
            have key : ∀ v l, Sl w5.heap.size w5 v l → Sl w5.heap.size wq v l := fun v l hs => by
              obtain ⟨a, cap, rfl, h1, h2, h3⟩ := hs
              refine ⟨a, cap, rfl, h1, h2, h3.imp id ?_⟩
              rintro ⟨b, off, e, hb, hc⟩
              exact ⟨b, off, e, hb, fun i hi => by have := hc i hi; simpa only [World.cell?, hq] using this⟩
            have := same_any w5.heap.size _ _ _ _ wq (key _ _ hsl1) (key _ _ hsl2)
            rw [decide_eq_true (rfl : ls i = ls i)] at this
            exact this
          have HNX : Hid (∀ w5 q, Below wp.heap.size wp w5 → Below w.heap.size w (w5.drewN q)) := fun w5 q hB5 => HB.out.trans ((hB5.trans ((Out.drew (X := fun _ => False) w5 q).below hB5.size (fun _ h => h.elim))).mono HB.out.size)
          go_wp2_with fail
          go_region_held3 (fun w' => w'.cell? ⟨m, i, none⟩ = some (.slice aJ (ls i).length cJ)) (go_keep)
            (first
              | (go_at_call 29; refine (HI.out _ ?_).mono ?_; exact ⟨HB'.out.os, HB'.out.tape, HB'.out.output, HB'.out.size, HB'.out.block⟩; rintro e w5 ⟨v5, rfl, h5, hB5⟩; obtain ⟨mc5, hsm⟩ := HSM.out w5 v5 h5 hB5; have HSMQ : Hid _ := hsm; obtain ⟨a5, c5, rfl, -, -⟩ := h5.shape; have HB5 : Hid (Below wp.heap.size wp w5) := hB5; clear h5 hB5 hsm)
              | (go_at_call 18; refine (HSMQ.out _ ?_).mono ?_; rfl; rintro e w6 ⟨rfl, q6, rfl⟩)
              | fail)
          all_goals go_wp2
          all_goals exact ⟨⟨i + 1, by rw [HT1.out], by go_num, by omega, HNX.out w5 _ HB5.out⟩, by simp [intOf]; omega⟩
    · have hin' : decide ((i : Int) < (n : Int)) = false := by simp; omega
      obtain rfl : i = n := by omega
      have HMp : Hid (LM N S S' wp d m i R nx vs ls ls) := HM.out wp HB.out
      have hle := llen_any HMp.out.la
      have hi1 := litems_none HMp.out.la (-1) (by omega)
      have hi2 := litems_none HMp.out.la (i : Int) (by omega)
      generalize tot ls i = T0 at *
      go_wp2_with fail
      refine hle.mono ?_
      rintro e wx ⟨rfl, hwx⟩
      subst wx
      go_wp2_with fail
      refine hi1.mono ?_
      rintro e wx ⟨rfl, hwx⟩
      subst wx
      go_wp2_with fail
      refine hi2.mono ?_
      rintro e wx ⟨rfl, hwx⟩
      subst wx
      go_wp2
      go_ret
      exact ⟨rfl, HB.out⟩

end Go.Proofs.Ythaoobfldponpaa
