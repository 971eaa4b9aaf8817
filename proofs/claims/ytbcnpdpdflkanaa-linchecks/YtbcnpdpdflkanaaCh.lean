/-
  LinChecks.
-/
import Derived.Test.YtbcnpdpdflkanaaDc
namespace Go.Proofs.Ytbcnpdpdflkanaa
open Go.RowKit

set_option maxRecDepth 100000 in
set_option maxHeartbeats 8000000 in
theorem checks_walk (w : World) (a : Option Addr) (cap : Nat) (h : List Lo) (hA : HAt w.heap.size w a h) (hin : ∀ o ∈ h, InO o) (hl : h.length ≤ maxLen) (_hc1 : h.length ≤ cap) (_hc2 : cap ≤ maxLen) :
    Calls Try.prog 3 #[.slice a h.length cap] w fun e w' => e = .returned (.bool true) ∧ Below w.heap.size w w' := by
  have HF := first_any
  have hok : ∀ o ∈ h, LoOk o := fun o ho => (hin o ho).ok
  have HFW : Hid (∀ w1, Below w.heap.size w w1 → Calls Try.prog 10 #[.slice a h.length cap] w1 (FewR h w1)) := fun w1 hB => few_any w.heap.size w1 a cap h (hA.below hB) hok hl
  have HRV : Hid (∀ w1, Below w.heap.size w w1 → Calls Try.prog 18 #[.slice a h.length cap] w1 fun e w' => e = .returned (.int .i64 (valid h)) ∧ Below w1.heap.size w1 w') := fun w1 hB => refValid_any w.heap.size w1 a cap h hB.size (hA.below hB) hl
  have HRK : Hid (h.length ≤ 600 → ∀ w1, Below w.heap.size w w1 → Calls Try.prog 14 #[.slice a h.length cap] w1 fun e w' => ∃ v ks, e = .returned v ∧ KS h h.length ks ∧ SOw w1.heap.size w' v ks ∧ Below w1.heap.size w1 w') := fun h6 w1 hB => refKeys_any w.heap.size w1 a cap h hB.size (hA.below hB) (by omega)
  have HRC : Hid (valid h = 0 → ∀ w1, Below w.heap.size w w1 → Calls Try.prog 20 #[.slice a h.length cap] w1 fun e w' => e = .returned (.bool (judged h)) ∧ Below w1.heap.size w1 w') := fun hv w1 hB => refCheck_any w.heap.size w1 a cap h hB.size (hA.below hB) hok hv
  have hl' := hl
  unfold maxLen at hl'
  have HN := num_any
  go_enter Try.func3, Try.ntmps3
  go_wp2_with (first
    | (go_at_call 9; refine (HF _).mono ?_; rintro e w1 ⟨rfl, hB1⟩)
    | fail)
  refine (HFW.out _ hB1).mono ?_
  rintro e w2 ⟨t, n2, rfl, ht, rfl⟩
  have hB2 : Below w.heap.size w (w1.drewN n2) := ⟨hB1.os, hB1.tape, hB1.output, hB1.size, hB1.block⟩
  generalize w1.drewN n2 = w2 at *
  clear hB1
  cases t with
  | false =>
    go_wp2
    go_ret
    exact ⟨rfl, hB2⟩
  | true =>
    have h6 := ht rfl
    clear ht
    have hz2 := hB2.size
    rcases hA with rfl | ⟨b, off, rfl, hb, hrun⟩
    · have hO0 : OOw w.heap.size (w2.alloc (.cells #[] 35)) (.slice (some ⟨w2.heap.size, 0, none⟩) ([] : List Lo).length 0) [] := own_empty w2 hz2
      have hW0 : Below w.heap.size w (w2.alloc (.cells #[] 35)) := hB2.alloc hz2 _
      cases a
      all_goals (
        go_wp2_with fail
        have HO3 : Hid (OOw w.heap.size (w2.alloc (.cells #[] 35)) (.slice (some ⟨w2.heap.size, 0, none⟩) ([] : List Lo).length 0) []) := hO0
        have HW3 : Hid (Below w.heap.size w (w2.alloc (.cells #[] 35))) := hW0
        clear hO0 hW0
        generalize w2.heap.size = L2 at *
        generalize w2.alloc (.cells #[] 35) = w3 at *
        have HV3 := valid_any w3.heap.size w3 (some ⟨L2, 0, none⟩) (0) ([] : List Lo) (Nat.le_refl _) (OOw.hat HO3.out (Nat.le_refl _)) hok hl
        refine HV3.mono ?_
        rintro e w4 ⟨rfl, hB4⟩
        have hO4 : OOw w.heap.size w4 (.slice (some ⟨L2, 0, none⟩) ([] : List Lo).length (0)) ([] : List Lo) := row_below HO3.out hB4
        have hW4 : Below w.heap.size w w4 := HW3.out.trans (hB4.mono HW3.out.size)
        have HC4 := check_any w4.heap.size w4 (some ⟨L2, 0, none⟩) (0) ([] : List Lo) (Nat.le_refl _) (OOw.hat hO4 (Nat.le_refl _)) hok hl
        have HO4 : Hid (OOw w.heap.size w4 (.slice (some ⟨L2, 0, none⟩) ([] : List Lo).length (0)) ([] : List Lo)) := hO4
        have HW4 : Hid (Below w.heap.size w w4) := hW4
        clear HV3 hB4 hO4 hW4 HO3 HW3
        go_wp2_with fail
        refine HC4.mono ?_
        rintro e w5 ⟨rfl, hB5⟩
        have hO5 : OOw w.heap.size w5 (.slice (some ⟨L2, 0, none⟩) ([] : List Lo).length (0)) ([] : List Lo) := row_below HO4.out hB5
        have hW5 : Below w.heap.size w w5 := HW4.out.trans (hB5.mono HW4.out.size)
        have HK5 := keys_any w5.heap.size w5 (some ⟨L2, 0, none⟩) (0) ([] : List Lo) (Nat.le_refl _) (OOw.hat hO5 (Nat.le_refl _)) hok (by omega)
        have HO5 : Hid (OOw w.heap.size w5 (.slice (some ⟨L2, 0, none⟩) ([] : List Lo).length (0)) ([] : List Lo)) := hO5
        have HW5 : Hid (Below w.heap.size w w5) := hW5
        clear HC4 hB5 hO5 hW5 HO4 HW4
        go_wp2_with fail
        refine HK5.mono ?_
        rintro e w6 ⟨kv, ks, rfl, hK6, hR6, hB6⟩
        obtain ⟨ka, kc, hks, hk1, hk2⟩ := row_shape hR6
        subst hks
        have hO6 : OOw w.heap.size w6 (.slice (some ⟨L2, 0, none⟩) ([] : List Lo).length (0)) ([] : List Lo) := row_below HO5.out hB6
        have hW6 : Below w.heap.size w w6 := HW5.out.trans (hB6.mono HW5.out.size)
        have HNE : Hid (∀ g, (Value.slice ka ks.length kc).ownBlock = some g → (Value.slice (some ⟨L2, 0, none⟩) ([] : List Lo).length (0)).ownBlock ≠ some g ∧ w.heap.size ≤ g) := fun g hg => by
          have h1 := (World.ownsRow.lt hR6 g hg).1
          have h2 := HW5.out.size
          exact ⟨fun e => by have := (World.ownsRow.lt HO5.out g e).2; omega, by omega⟩
        have HRK6 := HRK.out h6 w6 hW6
        have HO6 : Hid (OOw w.heap.size w6 (.slice (some ⟨L2, 0, none⟩) ([] : List Lo).length (0)) ([] : List Lo)) := hO6
        have HW6 : Hid (Below w.heap.size w w6) := hW6
        have HR6 : Hid (SOw w5.heap.size w6 (.slice ka ks.length kc) ks) := hR6
        have HK6 : Hid (KeysOk ([] : List Lo) ks) := hK6
        clear HK5 hB6 hO6 hW6 HO5 HW5 hR6 hK6
        go_wp2_with fail
        refine HRK6.mono ?_
        rintro e w7 ⟨kv2, ks2, rfl, hK7, hR7, hB7⟩
        obtain rfl : ks2 = ks := hK7.uniq HK6.out.ks
        obtain ⟨ka2, kc2, hks2, -, -⟩ := row_shape hR7
        subst hks2
        have hO7 : OOw w.heap.size w7 (.slice (some ⟨L2, 0, none⟩) ([] : List Lo).length (0)) ([] : List Lo) := row_below HO6.out hB7
        have hW7 : Below w.heap.size w w7 := HW6.out.trans (hB7.mono HW6.out.size)
        have hR67 : SOw w5.heap.size w7 (.slice ka ks2.length kc) ks2 := row_below HR6.out hB7
        have HST := sameTexts_same _ _ w7 _ _ ks2 hR67 hR7
        have HO7 : Hid (OOw w.heap.size w7 (.slice (some ⟨L2, 0, none⟩) ([] : List Lo).length (0)) ([] : List Lo)) := hO7
        have HW7 : Hid (Below w.heap.size w w7) := hW7
        have HR7 : Hid (SOw w5.heap.size w7 (.slice ka ks2.length kc) ks2) := hR67
        clear HRK6 hB7 hO7 hW7 HO6 HW6 hR67 hR7 HR6 hK7 HK6
        go_wp2_with fail
        refine HST.mono ?_
        rintro e w8 ⟨rfl, n8, rfl⟩
        have HO8 : Hid (OOw w.heap.size (w7.drewN n8) (.slice (some ⟨L2, 0, none⟩) ([] : List Lo).length (0)) ([] : List Lo)) := HO7.out
        have HW8 : Hid (Below w.heap.size w (w7.drewN n8)) := below_drew1 HW7.out
        have HR8 : Hid (SOw w5.heap.size (w7.drewN n8) (.slice ka ks2.length kc) ks2) := HR7.out
        clear HST HO7 HW7 HR7
        generalize w7.drewN n8 = w8 at *
        unfold maxLen at hk2
        go_wp2
        go_loopw [12] (fun i wr => ∃ (k : Nat) (kl : List Bs), i = .int .i64 k ∧ k ≤ ks2.length ∧ wr.ownsRow w5.heap.size 9 1 (.slice ka ks2.length kc) ks2.length (kl.map encStr) ∧ OOw w.heap.size wr (.slice (some ⟨L2, 0, none⟩) ([] : List Lo).length (0)) ([] : List Lo) ∧ Below w.heap.size w wr) (fun i _ => ks2.length - (intOf i).toNat)
        case atStart => exact ⟨0, ks2, rfl, by omega, HR8.out, HO8.out, HW8.out⟩
        case round =>
          obtain ⟨k, kl, rfl, hk, hRr, hOr, hWr⟩ := hrel
          by_cases hlt : k < ks2.length
          · obtain ⟨g, rfl, hg1, hg2⟩ := row_ptr hRr (by omega)
            obtain ⟨ck, cf⟩ := row_cell hRr (j := k) (by omega)
            obtain ⟨hne1, hne2⟩ := HNE.out g rfl
            have HR9 : Hid ((wr.setCell ⟨g, k, none⟩ (encStr [111, 118, 101, 114])).ownsRow w5.heap.size 9 1 (.slice (some ⟨g, 0, none⟩) ks2.length kc) ks2.length ((kl.set k [111, 118, 101, 114]).map encStr)) := by
              have := row_store hRr k (encStr [111, 118, 101, 114])
              rw [← List.map_set] at this
              exact this
            have HO9 : Hid (OOw w.heap.size (wr.setCell ⟨g, k, none⟩ (encStr [111, 118, 101, 114])) (.slice (some ⟨L2, 0, none⟩) ([] : List Lo).length (0)) ([] : List Lo)) := row_out (X := fun i => i = g) hOr (Out.set rfl) (fun g' hg' e => hne1 (by rw [hg', e]))
            have HW9 : Hid (Below w.heap.size w (wr.setCell ⟨g, k, none⟩ (encStr [111, 118, 101, 114]))) := hWr.setCell (p := ⟨g, k, none⟩) hne2 _
            clear hRr hOr hWr
            go_wp2
            exact ⟨⟨k + 1, _, by simp, by omega, HR9.out, HO9.out, HW9.out⟩, by simp [intOf]; omega⟩
          · have hkk : k = ks2.length := by omega
            subst hkk
            have HO9 : Hid (OOw w.heap.size wr (.slice (some ⟨L2, 0, none⟩) ([] : List Lo).length (0)) ([] : List Lo)) := hOr
            have HW9 : Hid (Below w.heap.size w wr) := hWr
            clear hRr hOr hWr HR8 HO8 HW8 HNE
            go_wp2
            generalize wr = W9 at *
            have hz9 := HW9.out.size
            go_loopw [13] (fun i wq => ∃ (k : Nat), i = .int .i64 k ∧ k ≤ ([] : List Lo).length ∧ Below W9.heap.size W9 wq) (fun i _ => ([] : List Lo).length - (intOf i).toNat)
            case atStart => exact ⟨0, rfl, by omega, Below.refl _ _⟩
            case round =>
              obtain ⟨k, rfl, hk, hBr⟩ := hrel
              by_cases hlt : k < ([] : List Lo).length
              · exact absurd hlt (by simp)
              · have hkh : k = ([] : List Lo).length := by omega
                subst hkh
                have hWr : Below w.heap.size w wr := HW9.out.trans (hBr.mono hz9)
                have HVV := HRV.out wr hWr
                have HWR : Hid (Below w.heap.size w wr) := hWr
                by_cases hv : valid ([] : List Lo) = 0
                · have HRC2 : Hid (∀ w1, Below w.heap.size w w1 → Calls Try.prog 20 _ w1 _) := HRC.out hv
                  have hce : checkE ([] : List Lo) = judged ([] : List Lo) := by unfold checkE; simp [hv]
                  rw [hv] at HVV ⊢
                  rw [hce]
                  generalize judged ([] : List Lo) = jh at *
                  clear hWr hBr hv hce HRC
                  cases jh
                  all_goals (
                    go_wp2_with fail
                    refine HVV.mono ?_
                    rintro e wv ⟨rfl, hBv⟩
                    have HWV : Hid (Below w.heap.size w wv) := HWR.out.trans (hBv.mono HWR.out.size)
                    have HRC3 := HRC2.out wv HWV.out
                    go_wp2_with (first
                      | (go_at_call 19; refine (HN _ _).mono ?_; rintro e wn ⟨rfl, hwn⟩; subst wn)
                      | (go_at_call 20; refine HRC3.mono ?_; rintro e wc ⟨rfl, hBc⟩))
                    go_ret
                    exact ⟨rfl, HWV.out.trans (hBc.mono HWV.out.size)⟩)
                · have hce : checkE ([] : List Lo) = false := by unfold checkE; simp [hv]
                  have hne : (valid ([] : List Lo) != 0) = true := by simpa using hv
                  rw [hce]
                  generalize valid ([] : List Lo) = vh at *
                  clear hWr hBr hv hce HRC
                  go_wp2_with fail
                  refine HVV.mono ?_
                  rintro e wv ⟨rfl, hBv⟩
                  have HWV : Hid (Below w.heap.size w wv) := HWR.out.trans (hBv.mono HWR.out.size)
                  go_wp2_with (first
                    | (go_at_call 19; refine (HN _ _).mono ?_; rintro e wn ⟨rfl, hwn⟩; subst wn))
                  go_ret
                  exact ⟨rfl, HWV.out⟩)
    · have hr2 : HRun w2 b off h := fun i hi => (hrun i hi).same (fun o => hB2.cell (p := ⟨b, o, none⟩) hb)
      have HRN : Hid (HRun (w2.alloc (.cells #[] 35)) b off h) := hr2.below (N := w2.heap.size) ((Below.refl _ w2).alloc (Nat.le_refl _) _) (by omega)
      have HRU : Hid (∀ W, Below w.heap.size w W → HRun W b off h) := fun W hW i hi => (hrun i hi).same (fun o => hW.cell (p := ⟨b, o, none⟩) hb)
      have HCL : Hid ((opC h).length = h.length * 10) := opC_len h
      clear hrun hr2
      go_wp2_with (at_builtin; refine wpList_app tyO rfl _ _ rfl w.heap.size (.slice (some ⟨w2.heap.size, 0, none⟩) 0 0) 0 [] ⟨b, off, none⟩ h.length cap (opC h) rfl (own_empty w2 hz2) rfl HCL.out HRN.out.news (opC_one h) (by omega) (by simp; omega) ?_; intro v3 w3 p1 p2 p3; rw [Nat.zero_add, List.nil_append] at p1; obtain ⟨a3, c3, hv3, -, -⟩ := row_shape p1; subst hv3; have HB3 : Hid (Below w2.heap.size w2 w3) := (((Below.refl _ w2).alloc (Nat.le_refl _) _).grown p2 (by simp) (fun g hg => by cases hg; exact Nat.le_refl _)); have HO3 : Hid (OOw w.heap.size w3 (.slice a3 h.length c3) h) := p1; have HW3 : Hid (Below w.heap.size w w3) := (hB2.trans (HB3.out.mono hz2)); clear p1 p2 p3)
      have HV3 := valid_any w3.heap.size w3 (a3) (c3) h (Nat.le_refl _) (OOw.hat HO3.out (Nat.le_refl _)) hok hl
      go_wp2_with fail
      refine HV3.mono ?_
      rintro e w4 ⟨rfl, hB4⟩
      have hO4 : OOw w.heap.size w4 (.slice (a3) h.length (c3)) h := row_below HO3.out hB4
      have hW4 : Below w.heap.size w w4 := HW3.out.trans (hB4.mono HW3.out.size)
      have HC4 := check_any w4.heap.size w4 (a3) (c3) h (Nat.le_refl _) (OOw.hat hO4 (Nat.le_refl _)) hok hl
      have HO4 : Hid (OOw w.heap.size w4 (.slice (a3) h.length (c3)) h) := hO4
      have HW4 : Hid (Below w.heap.size w w4) := hW4
      clear HV3 hB4 hO4 hW4 HO3 HW3
      go_wp2_with fail
      refine HC4.mono ?_
      rintro e w5 ⟨rfl, hB5⟩
      have hO5 : OOw w.heap.size w5 (.slice (a3) h.length (c3)) h := row_below HO4.out hB5
      have hW5 : Below w.heap.size w w5 := HW4.out.trans (hB5.mono HW4.out.size)
      have HK5 := keys_any w5.heap.size w5 (a3) (c3) h (Nat.le_refl _) (OOw.hat hO5 (Nat.le_refl _)) hok (by omega)
      have HO5 : Hid (OOw w.heap.size w5 (.slice (a3) h.length (c3)) h) := hO5
      have HW5 : Hid (Below w.heap.size w w5) := hW5
      clear HC4 hB5 hO5 hW5 HO4 HW4
      go_wp2_with fail
      refine HK5.mono ?_
      rintro e w6 ⟨kv, ks, rfl, hK6, hR6, hB6⟩
      obtain ⟨ka, kc, hks, hk1, hk2⟩ := row_shape hR6
      subst hks
      have hO6 : OOw w.heap.size w6 (.slice (a3) h.length (c3)) h := row_below HO5.out hB6
      have hW6 : Below w.heap.size w w6 := HW5.out.trans (hB6.mono HW5.out.size)
      have HNE : Hid (∀ g, (Value.slice ka ks.length kc).ownBlock = some g → (Value.slice (a3) h.length (c3)).ownBlock ≠ some g ∧ w.heap.size ≤ g) := fun g hg => by
        have h1 := (World.ownsRow.lt hR6 g hg).1
        have h2 := HW5.out.size
        exact ⟨fun e => by have := (World.ownsRow.lt HO5.out g e).2; omega, by omega⟩
      have HRK6 := HRK.out h6 w6 hW6
      have HO6 : Hid (OOw w.heap.size w6 (.slice (a3) h.length (c3)) h) := hO6
      have HW6 : Hid (Below w.heap.size w w6) := hW6
      have HR6 : Hid (SOw w5.heap.size w6 (.slice ka ks.length kc) ks) := hR6
      have HK6 : Hid (KeysOk h ks) := hK6
      clear HK5 hB6 hO6 hW6 HO5 HW5 hR6 hK6
      go_wp2_with fail
      refine HRK6.mono ?_
      rintro e w7 ⟨kv2, ks2, rfl, hK7, hR7, hB7⟩
      obtain rfl : ks2 = ks := hK7.uniq HK6.out.ks
      obtain ⟨ka2, kc2, hks2, -, -⟩ := row_shape hR7
      subst hks2
      have hO7 : OOw w.heap.size w7 (.slice (a3) h.length (c3)) h := row_below HO6.out hB7
      have hW7 : Below w.heap.size w w7 := HW6.out.trans (hB7.mono HW6.out.size)
      have hR67 : SOw w5.heap.size w7 (.slice ka ks2.length kc) ks2 := row_below HR6.out hB7
      have HST := sameTexts_same _ _ w7 _ _ ks2 hR67 hR7
      have HO7 : Hid (OOw w.heap.size w7 (.slice (a3) h.length (c3)) h) := hO7
      have HW7 : Hid (Below w.heap.size w w7) := hW7
      have HR7 : Hid (SOw w5.heap.size w7 (.slice ka ks2.length kc) ks2) := hR67
      clear HRK6 hB7 hO7 hW7 HO6 HW6 hR67 hR7 HR6 hK7 HK6
      go_wp2_with fail
      refine HST.mono ?_
      rintro e w8 ⟨rfl, n8, rfl⟩
      have HO8 : Hid (OOw w.heap.size (w7.drewN n8) (.slice (a3) h.length (c3)) h) := HO7.out
      have HW8 : Hid (Below w.heap.size w (w7.drewN n8)) := below_drew1 HW7.out
      have HR8 : Hid (SOw w5.heap.size (w7.drewN n8) (.slice ka ks2.length kc) ks2) := HR7.out
      clear HST HO7 HW7 HR7
      generalize w7.drewN n8 = w8 at *
      unfold maxLen at hk2
      go_wp2
      go_loopw [12] (fun i wr => ∃ (k : Nat) (kl : List Bs), i = .int .i64 k ∧ k ≤ ks2.length ∧ wr.ownsRow w5.heap.size 9 1 (.slice ka ks2.length kc) ks2.length (kl.map encStr) ∧ OOw w.heap.size wr (.slice (a3) h.length (c3)) h ∧ Below w.heap.size w wr) (fun i _ => ks2.length - (intOf i).toNat)
      case atStart => exact ⟨0, ks2, rfl, by omega, HR8.out, HO8.out, HW8.out⟩
      case round =>
        obtain ⟨k, kl, rfl, hk, hRr, hOr, hWr⟩ := hrel
        by_cases hlt : k < ks2.length
        · obtain ⟨g, rfl, hg1, hg2⟩ := row_ptr hRr (by omega)
          obtain ⟨ck, cf⟩ := row_cell hRr (j := k) (by omega)
          obtain ⟨hne1, hne2⟩ := HNE.out g rfl
          have HR9 : Hid ((wr.setCell ⟨g, k, none⟩ (encStr [111, 118, 101, 114])).ownsRow w5.heap.size 9 1 (.slice (some ⟨g, 0, none⟩) ks2.length kc) ks2.length ((kl.set k [111, 118, 101, 114]).map encStr)) := by
            have := row_store hRr k (encStr [111, 118, 101, 114])
            rw [← List.map_set] at this
            exact this
          have HO9 : Hid (OOw w.heap.size (wr.setCell ⟨g, k, none⟩ (encStr [111, 118, 101, 114])) (.slice (a3) h.length (c3)) h) := row_out (X := fun i => i = g) hOr (Out.set rfl) (fun g' hg' e => hne1 (by rw [hg', e]))
          have HW9 : Hid (Below w.heap.size w (wr.setCell ⟨g, k, none⟩ (encStr [111, 118, 101, 114]))) := hWr.setCell (p := ⟨g, k, none⟩) hne2 _
          clear hRr hOr hWr
          go_wp2
          exact ⟨⟨k + 1, _, by simp, by omega, HR9.out, HO9.out, HW9.out⟩, by simp [intOf]; omega⟩
        · have hkk : k = ks2.length := by omega
          subst hkk
          have HO9 : Hid (OOw w.heap.size wr (.slice (a3) h.length (c3)) h) := hOr
          have HW9 : Hid (Below w.heap.size w wr) := hWr
          clear hRr hOr hWr HR8 HO8 HW8 HNE
          go_wp2
          generalize wr = W9 at *
          have hz9 := HW9.out.size
          haveI hne9 : Nonempty (Cw W9) := ⟨⟨W9, Below.refl _ _⟩⟩
          go_loopw [13] (fun i wq => ∃ (k : Nat), i = .int .i64 k ∧ k ≤ h.length ∧ Below W9.heap.size W9 wq) (fun i _ => h.length - (intOf i).toNat)
          case atStart => exact ⟨0, rfl, by omega, Below.refl _ _⟩
          case round =>
            obtain ⟨k, rfl, hk, hBr⟩ := hrel
            by_cases hlt : k < h.length
            · obtain ⟨g3, o3, ha3, -, d0, d1, d2, d3, d4, d5, d6, d7, d8, d9⟩ := (OOw.hat HO9.out (Nat.le_refl _)).at hlt
              subst ha3
              obtain ⟨c0, c1, c2, c3', c4, c5, c6, c7, c8, c9⟩ := HRU.out W9 HW9.out k hlt
              have HX1 := counts_any (oat h k)
              have HX2 := refCounts_any (oat h k)
              generalize oat h k = x at *
              unfold Lo.v Lo.box Lo.cells at HX1 HX2
              unfold str at HX1 HX2 d3 d4 d5 d9 c3' c4 c5 c9
              have HC1 : ∀ w, Calls Try.prog 16 _ w fun e w' => e = .returned (.bool x.counts) ∧ Below w.heap.size w w' := fun w => (HX1 w).mono fun e w' ⟨he, hw⟩ => ⟨he, by rw [hw]; exact below2 w _ _⟩
              have HC2 : ∀ w, Calls Try.prog 17 _ w fun e w' => e = .returned (.bool x.counts) ∧ Below w.heap.size w w' := fun w => (HX2 w).mono fun e w' ⟨he, hw⟩ => ⟨he, by rw [hw]; exact (Below.refl _ _).alloc (Nat.le_refl _) _⟩
              clear HX1 HX2
              generalize x.counts = xc at *
              have f0 := fun z : Cw W9 => z.cell d0
              have f1 := fun z : Cw W9 => z.cell d1
              have f2 := fun z : Cw W9 => z.cell d2
              have f3 := fun z : Cw W9 => z.cell d3
              have f4 := fun z : Cw W9 => z.cell d4
              have f5 := fun z : Cw W9 => z.cell d5
              have f6 := fun z : Cw W9 => z.cell d6
              have f7 := fun z : Cw W9 => z.cell d7
              have f8 := fun z : Cw W9 => z.cell d8
              have f9 := fun z : Cw W9 => z.cell d9
              have g0 := fun z : Cw W9 => z.cell c0
              have g1 := fun z : Cw W9 => z.cell c1
              have g2 := fun z : Cw W9 => z.cell c2
              have g3' := fun z : Cw W9 => z.cell c3'
              have g4 := fun z : Cw W9 => z.cell c4
              have g5 := fun z : Cw W9 => z.cell c5
              have g6 := fun z : Cw W9 => z.cell c6
              have g7 := fun z : Cw W9 => z.cell c7
              have g8 := fun z : Cw W9 => z.cell c8
              have g9 := fun z : Cw W9 => z.cell c9
              clear d0 d1 d2 d3 d4 d5 d6 d7 d8 d9 c0 c1 c2 c3' c4 c5 c6 c7 c8 c9
              go_wp2
              refine wp_region_cw (W := W9) (by kernel_rfl) (by kernel_rfl) hBr ?_
              repeat (go_big_quiet_step (first | exact Cw.calls _ HC1 | exact Cw.calls _ HC2))
              refine wpQuiet_nil ?_
              rintro _ ⟨z5, rfl⟩
              go_wp2
              exact ⟨⟨k + 1, by simp, by omega, z5.b⟩, by simp [intOf]; omega⟩
            · have hkh : k = h.length := by omega
              subst hkh
              have hWr : Below w.heap.size w wr := HW9.out.trans (hBr.mono hz9)
              have HVV := HRV.out wr hWr
              have HWR : Hid (Below w.heap.size w wr) := hWr
              by_cases hv : valid h = 0
              · have HRC2 : Hid (∀ w1, Below w.heap.size w w1 → Calls Try.prog 20 _ w1 _) := HRC.out hv
                have hce : checkE h = judged h := by unfold checkE; simp [hv]
                rw [hv] at HVV ⊢
                rw [hce]
                generalize judged h = jh at *
                clear hWr hBr hv hce HRC
                cases jh
                all_goals (
                  go_wp2_with fail
                  refine HVV.mono ?_
                  rintro e wv ⟨rfl, hBv⟩
                  have HWV : Hid (Below w.heap.size w wv) := HWR.out.trans (hBv.mono HWR.out.size)
                  have HRC3 := HRC2.out wv HWV.out
                  go_wp2_with (first
                    | (go_at_call 19; refine (HN _ _).mono ?_; rintro e wn ⟨rfl, hwn⟩; subst wn)
                    | (go_at_call 20; refine HRC3.mono ?_; rintro e wc ⟨rfl, hBc⟩))
                  go_ret
                  exact ⟨rfl, HWV.out.trans (hBc.mono HWV.out.size)⟩)
              · have hce : checkE h = false := by unfold checkE; simp [hv]
                have hne : (valid h != 0) = true := by simpa using hv
                rw [hce]
                generalize valid h = vh at *
                clear hWr hBr hv hce HRC
                go_wp2_with fail
                refine HVV.mono ?_
                rintro e wv ⟨rfl, hBv⟩
                have HWV : Hid (Below w.heap.size w wv) := HWR.out.trans (hBv.mono HWR.out.size)
                go_wp2_with (first
                  | (go_at_call 19; refine (HN _ _).mono ?_; rintro e wn ⟨rfl, hwn⟩; subst wn))
                go_ret
                exact ⟨rfl, HWV.out⟩
end Go.Proofs.Ytbcnpdpdflkanaa
