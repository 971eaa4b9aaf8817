/-
  The line of an act is read as that act: the walk.
-/
import Derived.Test.YtbckogojnjmjcaaDoorPc
namespace Go.Proofs.YtbckogojnjmjcaaDoor
open Go.RowKit Go.Shelf

set_option maxRecDepth 100000 in
set_option maxHeartbeats 8000000 in
theorem back_walk (w : World) (hv : Vars w) (line : Bs) (hl : line.length ≤ maxLen) (a : Ac) (ha : AcIn a) : Calls Tryd.prog 3 #[str line, .agg a.cells] w fun e w' => e = .returned (.bool true) ∧ Below w.heap.size w w' := by
  have HV : Hid (∀ W, Below w.heap.size w W → Vars W) := fun W h => hv.below h
  have HN := num_any
  have HB0 : Hid (Below w.heap.size w (w.alloc (.cells a.cells 23))) := (Below.refl _ _).alloc (Nat.le_refl _) _
  have HA0 : Hid (AcAt (w.alloc (.cells a.cells 23)) w.heap.size a) := heap_alloc_new w _
  have HFI := first_any (w.alloc (.cells a.cells 23)) (HV.out _ HB0.out)
  have hk := ha.key
  have hva := ha.val
  have ho := ha.old
  unfold maxLen at hl hk hva ho
  clear hv
  unfold Ac.cells str at HFI HB0 HA0
  unfold Ac.cells str
  go_enter Tryd.func3, Tryd.ntmps3
  go_wp2_with fail
  refine HFI.mono ?_
  rintro e w1 ⟨rfl, hB1⟩
  have hA1 : AcAt w1 w.heap.size a := HA0.out.below hB1
  have HA1 : Hid (AcAt w1 w.heap.size a) := hA1
  have HB1 : Hid (Below w.heap.size w w1) := HB0.out.trans (hB1.mono (by simp))
  have hz1 : w.heap.size < w1.heap.size := hA1.lt
  obtain ⟨a0, a1, a2, a3, a4, a5, a6, a7, a8⟩ := hA1.cells
  clear hB1 hA1 HFI HB0 HA0
  by_cases hll : 20000 < line.length
  · go_wp2
    go_ret
    exact ⟨rfl, HB1.out⟩
  by_cases hkk : 20000 < a.key.length
  · go_wp2
    go_ret
    exact ⟨rfl, HB1.out⟩
  by_cases hvv : 20000 < a.val.length
  · go_wp2
    go_ret
    exact ⟨rfl, HB1.out⟩
  by_cases hoo : 20000 < a.old.length
  · go_wp2
    go_ret
    exact ⟨rfl, HB1.out⟩
  have HOK : Hid (AcOk a) := ha.ok (by omega) (by omega) (by omega)
  have HFA := formatAct_any a HOK.out w1 (HV.out w1 HB1.out)
  unfold Ac.cells str at HFA
  go_wp2_with fail
  refine HFA.mono ?_
  rintro e w2 ⟨he2, hB2⟩
  have HB2 : Hid (Below w.heap.size w w2) := HB1.out.trans (hB2.mono (by omega))
  have hA2 : AcAt w2 w.heap.size a := HA1.out.below hB2
  have HA2 : Hid (AcAt w2 w.heap.size a) := hA2
  have hz2 : w.heap.size < w2.heap.size := hA2.lt
  clear a0 a1 a2 a3 a4 a5 a6 a7 a8 hB2 HFA HA1
  obtain ⟨a0, a1, a2, a3, a4, a5, a6, a7, a8⟩ := hA2.cells
  clear hA2
  cases hfm : fmtF a with
  | error k =>
    rw [hfm] at he2
    subst he2
    have hke := fmt_err hfm
    have hkb : ((k : Int) == 0) = false := by rw [beq_eq_false_iff_ne]; omega
    unfold FmE str
    clear hke hfm
    have HPL := parseAct_any line (by omega) w2 (HV.out w2 HB2.out)
    unfold str at HPL
    go_wp2_with (first
      | (go_at_call 7; refine (HN _ _).mono ?_; rintro e w5 ⟨rfl, hw⟩; subst w5)
      | fail)
    refine HPL.mono ?_
    rintro e w3 ⟨⟨r, hr, rfl⟩, hB3⟩
    have HB3 : Hid (Below w.heap.size w w3) := HB2.out.trans (hB3.mono (by omega))
    have hz3 : w.heap.size < w3.heap.size := Nat.lt_of_lt_of_le hz2 hB3.size
    clear HPL hB3 a0 a1 a2 a3 a4 a5 a6 a7 a8
    cases r with
    | error kk =>
      have hke := hr.err
      have hkn : ((kk : Int) != 0) = true := by rw [bne_iff_ne]; omega
      have heq : ∀ W, (Op.equalIn 10000 23 (.agg ac0.cells) (.agg ac0.cells)).run Tryd.prog W = .ok true W := fun W => by rw [run_eq_act]; simp
      unfold PaE
      unfold ac0 Ac.cells str at *
      clear hke hr
      go_wp2_with (first
        | (go_at_call 7; refine (HN _ _).mono ?_; rintro e w5 ⟨rfl, hw⟩; subst w5)
        | fail)
      go_ret
      exact ⟨rfl, HB3.out.alloc (by omega) _⟩
    | ok y =>
      obtain ⟨hyo, hne, ws, hws⟩ := hr.act
      have HYO : Hid (AcOk y) := hyo
      have hll0 : 0 < line.length := List.length_pos_iff.2 hne
      have HBA3 : Hid (∀ o, Below w.heap.size w (w3.alloc o)) := fun o => HB3.out.alloc (by omega) o
      have HAY : Hid (AcAt (w3.alloc (.cells y.cells 23)) w3.heap.size y) := heap_alloc_new w3 _
      have HFY := fun o => formatAct_any y hyo (w3.alloc o) (HV.out _ (HBA3.out o))
      unfold PaE
      unfold Ac.cells str at HFY HAY
      unfold Ac.cells str
      go_wp2_with (first
        | (go_at_call 7; refine (HN _ _).mono ?_; rintro e w5 ⟨rfl, hw⟩; subst w5)
        | fail)
      refine (HFY _).mono ?_
      rintro e w7 ⟨he7, hB7⟩
      have HAY7 : Hid (AcAt w7 w3.heap.size y) := HAY.out.below hB7
      have HB7 : Hid (Below w.heap.size w w7) := (HBA3.out _).trans (hB7.mono (by simp; omega))
      have hz7 : w3.heap.size < w7.heap.size := HAY7.out.lt
      clear HFY HAY hB7 hr hyo
      rcases fmt_again hws with ⟨t, ht⟩ | h3
      · rw [ht] at he7
        subst he7
        have HT : Hid (PaR t (.ok y)) := fmt_back ht
        have htl := fmt_len ht
        have HPT := parseAct_any t (by omega) w7 (HV.out w7 HB7.out)
        unfold str at HPT
        unfold FmE str
        clear ht hws
        go_wp2_with (first
          | (go_at_call 7; refine (HN _ _).mono ?_; rintro e w5 ⟨rfl, hw⟩; subst w5)
          | fail)
        refine HPT.mono ?_
        rintro e w8 ⟨⟨r8, hr8, rfl⟩, hB8⟩
        have hr8' := hr8.uniq HT.out
        subst hr8'
        unfold PaE
        have heq : ∀ W, (Op.equalIn 10000 23 (.agg y.cells) (.agg y.cells)).run Tryd.prog W = .ok true W := fun W => by rw [run_eq_act]; simp
        have hA8 : AcAt w8 w3.heap.size y := HAY7.out.below hB8
        have HB8 : Hid (Below w.heap.size w w8) := HB7.out.trans (hB8.mono (by omega))
        have hz8 : w3.heap.size < w8.heap.size := hA8.lt
        have HBA8 : Hid (∀ o, Below w.heap.size w (w8.alloc o)) := fun o => HB8.out.alloc (by omega) o
        obtain ⟨y0, y1, y2, y3, y4, y5, y6, y7, y8⟩ := hA8.cells
        obtain ⟨rc8, -⟩ := stays (W := w8) (R := w3.heap.size) (by omega)
        unfold Ac.cells str at heq
        unfold Ac.cells str
        clear hA8 hB8 HPT hr8
        go_wp2_with (first
          | (go_at_call 7; refine (HN _ _).mono ?_; rintro e w5 ⟨rfl, hw⟩; subst w5)
          | fail)
        go_ret
        exact ⟨rfl, HBA8.out _⟩
      · rw [h3] at he7
        subst he7
        unfold FmE str
        clear hws h3
        go_wp2_with (first
          | (go_at_call 7; refine (HN _ _).mono ?_; rintro e w5 ⟨rfl, hw⟩; subst w5)
          | fail)
        go_ret
        exact ⟨rfl, HB7.out⟩
  | ok s =>
    rw [hfm] at he2
    subst he2
    have HS : Hid (PaR s (.ok a)) := fmt_back hfm
    have hsl := fmt_len hfm
    unfold FmE str
    clear hfm
    have HPS := parseAct_any s (by omega) w2 (HV.out w2 HB2.out)
    unfold str at HPS
    go_wp2_with (first
      | (go_at_call 7; refine (HN _ _).mono ?_; rintro e w5 ⟨rfl, hw⟩; subst w5)
      | fail)
    refine HPS.mono ?_
    rintro e w6 ⟨⟨r6, hr6, rfl⟩, hB6⟩
    have hr6' := hr6.uniq HS.out
    subst hr6'
    unfold PaE Ac.cells str
    have heq : ∀ W, (Op.equalIn 10000 23 (.agg a.cells) (.agg a.cells)).run Tryd.prog W = .ok true W := fun W => by rw [run_eq_act]; simp
    have hA6 : AcAt w6 w.heap.size a := HA2.out.below hB6
    have HB6 : Hid (Below w.heap.size w w6) := HB2.out.trans (hB6.mono (by omega))
    have hz6 : w.heap.size < w6.heap.size := hA6.lt
    have HBA : Hid (∀ o, Below w.heap.size w (w6.alloc o)) := fun o => HB6.out.alloc (by omega) o
    clear a0 a1 a2 a3 a4 a5 a6 a7 a8 hB6 HPS HA2
    obtain ⟨a0, a1, a2, a3, a4, a5, a6, a7, a8⟩ := hA6.cells
    obtain ⟨rc6, -⟩ := stays (W := w6) (R := w.heap.size) (by omega)
    unfold Ac.cells str at heq
    have HPL := fun o => parseAct_any line (by omega) (w6.alloc o) (HV.out _ (HBA.out o))
    unfold str at HPL
    clear hA6 hr6
    go_wp2_with (first
      | (go_at_call 7; refine (HN _ _).mono ?_; rintro e w5 ⟨rfl, hw⟩; subst w5)
      | fail)
    refine (HPL _).mono ?_
    rintro e w3 ⟨⟨r, hr, rfl⟩, hB3⟩
    have HB3 : Hid (Below w.heap.size w w3) := (HBA.out _).trans (hB3.mono (by simp; omega))
    have hz3 : w.heap.size < w3.heap.size := by have := hB3.size; simp at this; omega
    clear HPL hB3 a0 a1 a2 a3 a4 a5 a6 a7 a8 rc6 heq HBA
    cases r with
    | error kk =>
      have hke := hr.err
      have hkn : ((kk : Int) != 0) = true := by rw [bne_iff_ne]; omega
      have heq : ∀ W, (Op.equalIn 10000 23 (.agg ac0.cells) (.agg ac0.cells)).run Tryd.prog W = .ok true W := fun W => by rw [run_eq_act]; simp
      unfold PaE
      unfold ac0 Ac.cells str at *
      clear hke hr
      go_wp2_with (first
        | (go_at_call 7; refine (HN _ _).mono ?_; rintro e w5 ⟨rfl, hw⟩; subst w5)
        | fail)
      go_ret
      exact ⟨rfl, HB3.out.alloc (by omega) _⟩
    | ok y =>
      obtain ⟨hyo, hne, ws, hws⟩ := hr.act
      have HYO : Hid (AcOk y) := hyo
      have hll0 : 0 < line.length := List.length_pos_iff.2 hne
      have HBA3 : Hid (∀ o, Below w.heap.size w (w3.alloc o)) := fun o => HB3.out.alloc (by omega) o
      have HAY : Hid (AcAt (w3.alloc (.cells y.cells 23)) w3.heap.size y) := heap_alloc_new w3 _
      have HFY := fun o => formatAct_any y hyo (w3.alloc o) (HV.out _ (HBA3.out o))
      unfold PaE
      unfold Ac.cells str at HFY HAY
      unfold Ac.cells str
      go_wp2_with (first
        | (go_at_call 7; refine (HN _ _).mono ?_; rintro e w5 ⟨rfl, hw⟩; subst w5)
        | fail)
      refine (HFY _).mono ?_
      rintro e w7 ⟨he7, hB7⟩
      have HAY7 : Hid (AcAt w7 w3.heap.size y) := HAY.out.below hB7
      have HB7 : Hid (Below w.heap.size w w7) := (HBA3.out _).trans (hB7.mono (by simp; omega))
      have hz7 : w3.heap.size < w7.heap.size := HAY7.out.lt
      clear HFY HAY hB7 hr hyo
      rcases fmt_again hws with ⟨t, ht⟩ | h3
      · rw [ht] at he7
        subst he7
        have HT : Hid (PaR t (.ok y)) := fmt_back ht
        have htl := fmt_len ht
        have HPT := parseAct_any t (by omega) w7 (HV.out w7 HB7.out)
        unfold str at HPT
        unfold FmE str
        clear ht hws
        go_wp2_with (first
          | (go_at_call 7; refine (HN _ _).mono ?_; rintro e w5 ⟨rfl, hw⟩; subst w5)
          | fail)
        refine HPT.mono ?_
        rintro e w8 ⟨⟨r8, hr8, rfl⟩, hB8⟩
        have hr8' := hr8.uniq HT.out
        subst hr8'
        unfold PaE
        have heq : ∀ W, (Op.equalIn 10000 23 (.agg y.cells) (.agg y.cells)).run Tryd.prog W = .ok true W := fun W => by rw [run_eq_act]; simp
        have hA8 : AcAt w8 w3.heap.size y := HAY7.out.below hB8
        have HB8 : Hid (Below w.heap.size w w8) := HB7.out.trans (hB8.mono (by omega))
        have hz8 : w3.heap.size < w8.heap.size := hA8.lt
        have HBA8 : Hid (∀ o, Below w.heap.size w (w8.alloc o)) := fun o => HB8.out.alloc (by omega) o
        obtain ⟨y0, y1, y2, y3, y4, y5, y6, y7, y8⟩ := hA8.cells
        obtain ⟨rc8, -⟩ := stays (W := w8) (R := w3.heap.size) (by omega)
        unfold Ac.cells str at heq
        unfold Ac.cells str
        clear hA8 hB8 HPT hr8
        go_wp2_with (first
          | (go_at_call 7; refine (HN _ _).mono ?_; rintro e w5 ⟨rfl, hw⟩; subst w5)
          | fail)
        go_ret
        exact ⟨rfl, HBA8.out _⟩
      · rw [h3] at he7
        subst he7
        unfold FmE str
        clear hws h3
        go_wp2_with (first
          | (go_at_call 7; refine (HN _ _).mono ?_; rintro e w5 ⟨rfl, hw⟩; subst w5)
          | fail)
        go_ret
        exact ⟨rfl, HB7.out⟩
end Go.Proofs.YtbckogojnjmjcaaDoor
