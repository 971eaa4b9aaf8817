/-
  For every two ints and every bytes the law WireOneForm returns true: a number's bytes, with anything behind them, are read as that number in as many bytes as Size says; no number's bytes begin another's; Size rises; no condition.
-/
import Derived.Test.YtndgfkgfonfliaaRowIn
import Derived.Test.YtndgfkgfonfliaaForm
namespace Go.Proofs.Ytndgfkgfonfliaa
open Go.ChangeShapes Go.WideShapes Go.ChangeAt Go.RowKit
open Go.ChangeMaps (open_string shut_string)
set_option linter.unusedVariables false

theorem Sl.front {M : Nat} {w : World} {a : Option Addr} {cap : Nat} {l : List UInt8} (h : Sl M w (.slice a l.length cap) l) (k : Nat) (hk : k ≤ l.length) : Sl M w (.slice a k cap) (l.take k) := by
  obtain ⟨a', c, e, h1, h2, h3⟩ := h
  cases e
  have hlen : (l.take k).length = k := by simp; omega
  refine ⟨a, cap, by rw [hlen], by omega, h2, ?_⟩
  rcases h3 with h3 | ⟨b, off, e, hb, hc⟩
  · subst h3; exact .inl (by simp)
  · refine .inr ⟨b, off, e, hb, fun i hi => ?_⟩
    rw [hlen] at hi
    rw [hc i (by omega)]
    simp [hi]

set_option maxRecDepth 100000 in
set_option maxHeartbeats 4000000 in
theorem wireOneForm_walk0 (a b : Int) (v : Value) (l : List UInt8) (w : World) (hv : Sl w.heap.size w v l) :
    Calls Try.prog 8 #[.int .i64 a, .int .i64 b, v] w fun e w' => e = .returned (.bool true) ∧ Below w.heap.size w w' := by
  obtain ⟨av, c, rfl, -⟩ := id hv
  by_cases hl : l.length ≤ 20000
  · by_cases hA : isNumB a = true
    · have ea : putE a = 0 := by simp [putE, hA]
      have ra : 0 ≤ a ∧ a ≤ 4611686018427387904 := by simpa [isNumB] using hA
      by_cases hBn : isNumB b = true
      · have eb : putE b = 0 := by simp [putE, hBn]
        have rb : 0 ≤ b ∧ b ≤ 4611686018427387904 := by simpa [isNumB] using hBn
        obtain ⟨m, rfl⟩ := Int.eq_ofNat_of_zero_le ra.1
        obtain ⟨k, rfl⟩ := Int.eq_ofNat_of_zero_le rb.1
        have pa : putB (m : Int) = numB m := by simp [putB, hA]
        have pb : putB (k : Int) = numB k := by simp [putB, hBn]
        have sa : sizeOf' (m : Int) = (numB m).length := by simp [sizeOf', hA]
        have hm : m ≤ 4611686018427387904 := by omega
        have hk : k ≤ 4611686018427387904 := by omega
        have HI : Hid (intAt (numB m ++ l) 0 = (m, (numB m).length, 0)) := intAt_num m l hm
        have HF : Hid ((numB m).length ≤ (numB k).length → (numB m = (numB k).take (numB m).length ↔ m = k)) := numB_front m k hm hk
        have HM : Hid (m ≤ k → (numB m).length ≤ (numB k).length) := num_len_mono 9 m k
        have hlm : (numB m).length ≤ 10 := num_len_le 9 m
        have hlk : (numB k).length ≤ 10 := num_len_le 9 k
        have hlm0 := num_len_pos 9 m
        have hlk0 := num_len_pos 9 k
        generalize hxm : numB m = xm at *
        generalize hxk : numB k = xk at *
        have hlm0 : 0 < xm.length := by rw [← hxm]; exact hlm0
        have hlk0 : 0 < xk.length := by rw [← hxk]; exact hlk0
        clear hxm hxk
        clear hA hBn ra rb
        go_enter Try.func8, Try.ntmps8
        go_wp2_with fail
        refine (first_any _).mono ?_
        rintro e w1 ⟨rfl, hB1⟩
        have hz1 := hB1.size
        go_wp2_with fail
        refine (put_any _ _).mono ?_
        rintro e w2 ⟨v2, rfl, hO2, hB2⟩
        have hz2 := hB2.size
        obtain ⟨a2, c2, rfl, -, -⟩ := hO2.shape
        rw [ea]
        go_wp2_with fail
        refine (put_any _ _).mono ?_
        rintro e w3 ⟨v3, rfl, hO3, hB3⟩
        have hz3 := hB3.size
        obtain ⟨a3, c3, rfl, -, -⟩ := hO3.shape
        rw [eb]
        have HB : Hid (Below w.heap.size w w3) := (hB1.trans (hB2.mono hz1)).trans (hB3.mono (by omega))
        rw [pa] at hO2
        rw [pb] at hO3 ⊢
        have hv3 := ((hv.below hB1).below (hB2.mono hz1)).below (hB3.mono (by omega))
        have hO23 := hO2.below hB3 (Nat.le_refl _)
        clear hB1 hB2 hB3 hO2 hv ea eb pa pb
        go_wp2_with fail
        refine (num_any _ _).mono ?_
        rintro e w' ⟨rfl, hw⟩; subst w'
        go_wp2_with fail
        refine (num_any _ _).mono ?_
        rintro e w' ⟨rfl, hw⟩; subst w'
        go_wp2_with fail
        have hs23 := hO23.sl (Nat.le_refl w3.heap.size)
        refine (bytes_any _ _ xm _ hs23 (Nat.le_refl _) (by omega)).mono ?_
        rintro e w4 ⟨v4, rfl, hO4, hB4⟩
        have hz4 := hB4.size
        obtain ⟨a4, c4, rfl, -, -⟩ := hO4.shape
        have hv4 := hv3.below (hB4.mono (by omega))
        have hO24 := hO23.below hB4 (Nat.le_refl _)
        have hO34 := hO3.below hB4 (Nat.le_refl _)
        have hO2w := hO23
        have hO3w := hO3
        clear hs23 hO23 hO3 hv3
        go_wp2_with (at_builtin; refine wpList_append_ow rfl _ _ rfl w3.heap.size _ _ _ xm l rfl hO4 rfl hv4 (by omega) hz4 ?_; intro v5 w5 hO5 hg5 hn5; obtain ⟨a5, c5, hv5, -, -⟩ := hO5.shape; rw [List.length_append] at hv5; subst hv5)
        refine (wInt_any _ _ (xm ++ l) 0 _ (Nat.le_refl _) (hO5.sl (Nat.le_refl _))).mono ?_
        rintro e w6 ⟨rfl, hB6⟩
        rw [HI.out]
        unfold tup3
        have hg5' : w4.grownBy w5 (Value.slice a4 xm.length c4).ownBlock := hg5
        have hb4 : ∀ k, (Value.slice a4 xm.length c4).ownBlock = some k → w3.heap.size ≤ k := fun k hk => (World.ownsRow.lt hO4 k hk).1
        have hB35 : Below w3.heap.size w3 w5 := hB4.grown hg5' hz4 hb4
        have hz5 := hB35.size
        have hB36 : Below w3.heap.size w3 w6 := hB35.trans (hB6.mono hz5)
        have hO26 := hO2w.below hB36 (Nat.le_refl _)
        have hO36 := hO3w.below hB36 (Nat.le_refl _)
        have HB6 : Hid (Below w.heap.size w w6) := HB.out.trans (hB36.mono (by omega))
        have hz6 := hB36.size
        clear hO5 hO4 hB4 hB6 hB35 hB36 hg5 hg5' hn5 hO24 hO34 hv4 hb4
        go_wp2_with fail
        refine (num_any _ _).mono ?_
        rintro e w' ⟨rfl, hw⟩; subst w'
        go_wp2_with fail
        refine (wSize_any _ _).mono ?_
        rintro e w7 ⟨rfl, hB7⟩
        rw [sa]
        have hO27 := hO26.below hB7 (Nat.le_refl _)
        have hO37 := hO36.below hB7 (Nat.le_refl _)
        have HB7 : Hid (Below w.heap.size w w7) := HB6.out.trans (hB7.mono (by omega))
        clear hO26 hO36 hB7
        by_cases hle : xm.length ≤ xk.length
        · have hs2 := hO27.sl (Nat.le_refl w7.heap.size)
          have hs3 := (hO37.sl (Nat.le_refl w7.heap.size)).front xm.length hle
          obtain ⟨_, _, _, hcap, hmax, _⟩ := id (hO37.sl (Nat.le_refl w7.heap.size))
          have hd : decide (xm = xk.take xm.length) = decide (m = k) := by rw [Bool.eq_iff_iff]; simpa using HF.out hle
          have hcap' : xm.length ≤ c3 := by rename_i e1 e2 e3 e4; cases e3; omega
          unfold maxLen at hmax
          clear hcap
          by_cases hmk : m = k
          · have e1 : ((m : Int) == (k : Int)) = true := by simp [hmk]
            have e2 : decide ((k : Int) < (m : Int)) = false := by simp; omega
            have e3 : decide (m = k) = true := by simp [hmk]
            rw [e3] at hd
            clear hmk e3 hO27 hO37
            go_wp2_with (go_at_call 12; refine (same_any _ _ _ xm (xk.take xm.length) _ hs2 hs3).mono ?_; rintro e w8 ⟨rfl, n8, rfl⟩; rw [hd])
            all_goals
              go_ret
              exact ⟨rfl, HB7.out.trans ⟨rfl, rfl, rfl, Nat.le_refl _, fun _ _ => rfl⟩⟩
          · have e1 : ((m : Int) == (k : Int)) = false := by rw [beq_eq_false_iff_ne]; omega
            have e3 : decide (m = k) = false := by simp [hmk]
            rw [e3] at hd
            clear e3 hO27 hO37
            by_cases hgt : (k : Int) < (m : Int)
            · go_wp2_with (go_at_call 12; refine (same_any _ _ _ xm (xk.take xm.length) _ hs2 hs3).mono ?_; rintro e w8 ⟨rfl, n8, rfl⟩; rw [hd])
              all_goals
                go_ret
                exact ⟨rfl, HB7.out.trans ⟨rfl, rfl, rfl, Nat.le_refl _, fun _ _ => rfl⟩⟩
            · have e2 : decide ((k : Int) < (m : Int)) = false := by simp; omega
              go_wp2_with (go_at_call 12; refine (same_any _ _ _ xm (xk.take xm.length) _ hs2 hs3).mono ?_; rintro e w8 ⟨rfl, n8, rfl⟩; rw [hd])
              all_goals
                go_ret
                exact ⟨rfl, HB7.out.trans ⟨rfl, rfl, rfl, Nat.le_refl _, fun _ _ => rfl⟩⟩
        · have hgt : (k : Int) < (m : Int) := by
            by_cases h : m ≤ k
            · exact absurd (HM.out h) hle
            · omega
          have e1 : ((m : Int) == (k : Int)) = false := by rw [beq_eq_false_iff_ne]; omega
          have e2 : decide ((xm.length : Int) ≤ (xk.length : Int)) = false := by simp; omega
          have e2' : decide (xm.length ≤ xk.length) = false := by simp; omega
          go_wp2
          go_ret
          exact ⟨rfl, HB7.out⟩
      · have eb : putE b = 1 := by simp [putE, show isNumB b = false by simpa using hBn]
        obtain ⟨ra1, ra2⟩ := ra
        clear hA hBn
        go_enter Try.func8, Try.ntmps8
        go_wp2_with fail
        refine (first_any _).mono ?_
        rintro e w1 ⟨rfl, hB1⟩
        have hz1 := hB1.size
        go_wp2_with fail
        refine (put_any _ _).mono ?_
        rintro e w2 ⟨v2, rfl, hO2, hB2⟩
        have hz2 := hB2.size
        obtain ⟨a2, c2, rfl, -, -⟩ := hO2.shape
        rw [ea]
        go_wp2_with fail
        refine (put_any _ _).mono ?_
        rintro e w3 ⟨v3, rfl, hO3, hB3⟩
        have hz3 := hB3.size
        obtain ⟨a3, c3, rfl, -, -⟩ := hO3.shape
        rw [eb]
        have HB : Hid (Below w.heap.size w w3) := (hB1.trans (hB2.mono hz1)).trans (hB3.mono (by omega))
        clear hB1 hB2 hB3 hO2 hO3 hv ea eb
        go_wp2_with (go_at_call 13; refine (num_any _ _).mono ?_; rintro e w' ⟨rfl, hw⟩; subst w')
        go_ret
        exact ⟨rfl, HB.out⟩
    · have ea : putE a = 1 := by simp [putE, show isNumB a = false by simpa using hA]
      have ra : decide (0 ≤ a) = false ∨ (0 ≤ a ∧ decide (a ≤ 4611686018427387904) = false) := by
        have h : ¬ (0 ≤ a ∧ a ≤ 4611686018427387904) := by simpa [isNumB] using hA
        by_cases h0 : 0 ≤ a
        · exact .inr ⟨h0, by simp; omega⟩
        · exact .inl (by simpa using h0)
      clear hA
      rcases ra with ra | ⟨ra1, ra2⟩
      all_goals
        go_enter Try.func8, Try.ntmps8
        go_wp2_with fail
        refine (first_any _).mono ?_
        rintro e w1 ⟨rfl, hB1⟩
        have hz1 := hB1.size
        go_wp2_with fail
        refine (put_any _ _).mono ?_
        rintro e w2 ⟨v2, rfl, hO2, hB2⟩
        have hz2 := hB2.size
        obtain ⟨a2, c2, rfl, -, -⟩ := hO2.shape
        rw [ea]
        go_wp2_with fail
        refine (put_any _ _).mono ?_
        rintro e w3 ⟨v3, rfl, hO3, hB3⟩
        have hz3 := hB3.size
        obtain ⟨a3, c3, rfl, -, -⟩ := hO3.shape
        generalize putE b = pe
        have HB : Hid (Below w.heap.size w w3) := (hB1.trans (hB2.mono hz1)).trans (hB3.mono (by omega))
        clear hB1 hB2 hB3 hO2 hO3 hv ea
        go_wp2_with (go_at_call 13; refine (num_any _ _).mono ?_; rintro e w' ⟨rfl, hw⟩; subst w')
        go_ret
        exact ⟨rfl, HB.out⟩
  · have hl2 : (20000 : Int) < (l.length : Int) := by omega
    go_enter Try.func8, Try.ntmps8
    go_wp2_with fail
    refine (first_any _).mono ?_
    rintro e w1 ⟨rfl, hB1⟩
    go_wp2
    go_ret
    exact ⟨rfl, hB1⟩

theorem wireOneForm_walk (a0 a1 : Int) (a2 : Option Addr) (len2 cap2 : Nat) (z2 : List Int) (w : World) (w0 : (Lit.int .i64 a0).wf = true) (w1 : (Lit.int .i64 a1).wf = true) (w2 : IsRow .u8 w a2 len2 cap2 z2) :
    Calls Try.prog 8 #[.int .i64 a0, .int .i64 a1, .slice a2 len2 cap2] w fun e w' => e = .returned (.bool true) ∧ Below w.heap.size w w' := by
  obtain ⟨l, rfl, hs⟩ := isRow_sl w2
  exact wireOneForm_walk0 a0 a1 _ l w hs

set_option maxRecDepth 100000 in
theorem wireOneForm_lifted (os : Os) (started : os.Started) (H : Type) (enc : TypeId × Value → H) :
    ReturnsInHanded {} Try.checked os 8 .any (Rows.wireOneFormSpec.pre6 enc Try.prog Try.f8 Rows.wireOneFormRow.domain false) (Rows.wireOneFormSpec.post enc Try.prog Try.f8 false true false false) := by
  refine returnsInHanded_of_change (C := Try.checked) own started (by kernel_rfl) Try.func8
    (ChangeSpec.witness6 (enc := enc) (C := Try.checked) false ⟨#[], #[.int .i64 0, .int .i64 0, .slice none 0 0], []⟩ 8 (by kernel_rfl) (by kernel_rfl) (by kernel_rfl) (by kernel_rfl)) ?_
  intro W base args ds gs before hval0 hW hcnd _
  have hval : ∀ (j : Nat) t v, Try.f8.params[j]? = some t → args[j]? = some v → Value.okWide Try.prog W .any base t v := hval0
  have hW' := hW
  obtain ⟨p, q, hA0, hV, rfl, hfz, hnd⟩ := hW
  have hA : DataW.TrodAll enc Try.prog W 0 (fun _ => true) true Try.f8.params.toList args.toList ds p := hA0
  rw [Try.params8] at hA hval
  obtain ⟨v0, vs0, d0, ds0, p0, q0, hargs, rfl, rfl, h0, r0⟩ := trodAll_cons hA
  obtain ⟨v1, vs1, d1, ds1, p1, q1, rfl, rfl, rfl, h1, r1⟩ := trodAll_cons r0
  obtain ⟨v2, vs2, d2, ds2, p2, q2, rfl, rfl, rfl, h2, r2⟩ := trodAll_cons r1
  obtain ⟨rfl, rfl, rfl⟩ := trodAll_nil r2
  obtain rfl : args = #[v0, v1, v2] := by cases args; simp_all
  obtain ⟨rfl, rfl⟩ := trodVars_none hV
  obtain ⟨a0, rfl, rfl, rfl, w0⟩ := open_int Try.underlying3 (hval 0 3 v0 rfl rfl) h0
  obtain ⟨a1, rfl, rfl, rfl, w1⟩ := open_int Try.underlying3 (hval 1 3 v1 rfl rfl) h1
  obtain ⟨a2, len2, cap2, rfl⟩ := okWide_slice Try.underlying23 (hval 2 23 v2 rfl rfl)
  have k2 := h2
  have lt2 : ∀ x ∈ p2, x.block < W.heap.size := by obtain ⟨m, hm⟩ := k2; exact DataW.trod_lt m _ _ _ hm
  obtain ⟨z2, w2⟩ : ∃ zs, IsRow .u8 W a2 len2 cap2 zs := by
    obtain ⟨fuel, hf⟩ := h2
    rcases open_ints Try.underlying23 Try.underlying5 (by kernel_rfl) hf with ⟨hcs, _⟩ | ⟨x, l, c, zs, hcs, _, hl, hm, hz, _, hcell, hwz⟩
    · simp [Value.cells] at hcs
      obtain ⟨rfl, rfl, rfl⟩ := hcs
      exact ⟨[], .inl ⟨rfl, rfl, rfl, rfl⟩⟩
    · simp [Value.cells] at hcs
      obtain ⟨rfl, rfl, rfl⟩ := hcs
      exact ⟨zs, .inr ⟨_, rfl, hl, hm, by simpa using hz, hcell, hwz⟩⟩
  clear hA0 hval0
  refine (wireOneForm_walk a0 a1 a2 len2 cap2 z2 W w0 w1 w2).mono fun e W' ⟨he, bel⟩ => ?_
  subst he
  exact ⟨_, rfl, _, _, _, [], _, [], hW', trodAll_mk1 (shut_bool Try.underlying4 _), (trodAll_cons_mk (shut_int Try.underlying3 w0) (trodAll_cons_mk (shut_int Try.underlying3 w1) (trodAll_cons_mk (Below.trod laidOut (by kernel_rfl) (of_decide_eq_true (by kernel_rfl)) k2 bel lt2) trodAll_mk0))), rfl, bel.frame _, fun h => by cases h⟩

theorem wireOneForm_holds : Rows.WireOneFormSaid :=
  OpenClaim.holds_of_wide 8 Try.f8 rfl rfl rfl rfl rfl rfl rfl ⟨rfl, rfl, rfl, rfl, rfl⟩ rfl rfl rfl rfl rfl (by kernel_rfl) Try.func8 (by kernel_rfl)
    (of_decide_eq_true (by kernel_rfl)) (by unfold Func.isWrapper; first | (rw [if_pos (by decide +kernel)]; kernel_rfl) | (rw [if_neg (by decide +kernel)]; exact ⟨rfl, rfl⟩))
    (fun os started H enc _ => wireOneForm_lifted os started H enc)
#print axioms wireOneForm_holds
end Go.Proofs.Ytndgfkgfonfliaa
