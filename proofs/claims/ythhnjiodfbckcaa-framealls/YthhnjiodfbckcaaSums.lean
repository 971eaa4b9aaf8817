/-
  For every bytes the law FrameSums returns true: the sum and the frame of any bytes are the document's, and what was handed in stays; no condition.
-/
import Derived.Test.YthhnjiodfbckcaaRowIn
namespace Go.Proofs.Ythhnjiodfbckcaa
open Go.ChangeShapes Go.WideShapes Go.ChangeAt Go.RowKit
open Go.ChangeMaps (open_string shut_string)
set_option linter.unusedVariables false

theorem below_drewN {N : Nat} {w w1 : World} (h : Below N w w1) (n : Nat) : Below N w (w1.drewN n) := h.trans ⟨rfl, rfl, rfl, Nat.le_refl _, fun _ _ => rfl⟩

set_option maxRecDepth 100000 in
set_option maxHeartbeats 2000000 in
theorem frameSums_walk0 (v : Value) (l : List UInt8) (w : World) (hv : Sl w.heap.size w v l) :
    Calls Try.prog 3 #[v] w fun e w' => e = .returned (.bool true) ∧ Below w.heap.size w w' := by
  obtain ⟨a, c, rfl, -⟩ := id hv
  by_cases hl : l.length ≤ 4000
  · have hE : putE l = 0 := by unfold putE; rw [if_pos (by omega)]
    go_enter Try.func3, Try.ntmps3
    go_wp2_with fail
    refine (first_any _).mono ?_
    rintro e w1 ⟨rfl, hB1⟩
    have hz1 := hB1.size
    have hv1 := hv.below hB1
    go_wp2_with fail
    refine (lent_any w.heap.size _ l _ hv1 hz1 (by omega)).mono ?_
    rintro e w2 ⟨g, cap, rfl, hO2, hB2⟩
    have hz2 := hB2.size
    have HW2 : Hid (Below w.heap.size w w2) := hB1.trans (hB2.mono hz1)
    clear hB1 hB2 hv1
    have hs2 := hO2.lent (Nat.le_refl w2.heap.size)
    go_wp2_with fail
    refine (sum_any _ _ l w2 hs2 (Nat.le_refl _)).mono ?_
    rintro e w3 ⟨rfl, hB3⟩
    have hz3 := hB3.size
    have HW3 : Hid (Below w.heap.size w w3) := HW2.out.trans (hB3.mono (by omega))
    have hO3 := hO2.below hB3 (Nat.le_refl _)
    have hs3 := hs2.below hB3
    clear hB3 hO2 hs2
    go_wp2_with fail
    refine (put_any _ _ l w3 hs3 hz3).mono ?_
    rintro e w4 ⟨v4, rfl, hP4, hB4⟩
    rw [hE]
    obtain ⟨a4, c4, rfl, -⟩ := hP4.shape
    have hz4 := hB4.size
    have HW4 : Hid (Below w.heap.size w w4) := HW3.out.trans (hB4.mono (by omega))
    have hO4 := hO3.below hB4 (Nat.le_refl _)
    clear hB4 hO3 hs3
    go_wp2_with fail
    refine (refPut_any w.heap.size _ l w4 (hv.below HW4.out) HW4.out.size).mono ?_
    rintro e w5 ⟨v5, rfl, hP5, hB5⟩
    rw [hE]
    obtain ⟨a5, c5, rfl, -⟩ := hP5.shape
    have hz5 := hB5.size
    have HW5 : Hid (Below w.heap.size w w5) := HW4.out.trans (hB5.mono (by omega))
    have hO5 := hO4.below hB5 (Nat.le_refl _)
    have hP45 := (hP4.below hB5 (Nat.le_refl _)).sl (Nat.le_refl w5.heap.size)
    have hP55 := hP5.sl (Nat.le_refl w5.heap.size)
    clear hB5 hO4 hP4 hP5
    go_wp2_with fail
    refine (same_any _ _ _ _ _ w5 hP45 hP55).mono ?_
    rintro e w6 ⟨rfl, n6, rfl⟩
    simp only [decide_true]
    have HW6 : Hid (Below w.heap.size w (w5.drewN n6)) := below_drewN HW5.out n6
    have hO6 : Ow w1.heap.size (w5.drewN n6) (.slice (some ⟨g, 0, none⟩) (l.length + 1) cap) (l ++ [201]) := hO5.below (below_drewN (Below.refl _ _) n6) (Nat.le_refl _)
    generalize w5.drewN n6 = w6 at *
    have hv6 := hv.below HW6.out
    clear hP45 hP55 hO5
    go_wp2_with fail
    refine (kept_any _ g cap _ l w6 (by omega) hO6 (hv6.mono HW6.out.size)).mono ?_
    rintro e w7 ⟨rfl, n7, rfl⟩
    have HW7 : Hid (Below w.heap.size w (w6.drewN n7)) := below_drewN HW6.out n7
    generalize w6.drewN n7 = w7 at *
    have hv7 := hv.below HW7.out
    clear hO6 hv6
    go_wp2_with (first
      | (go_at_call 17; refine (num_any _ _).mono ?_; rintro e w' ⟨rfl, hw⟩; subst w')
      | (go_at_call 16; refine (refSum_any w.heap.size _ l w7 hv7).mono ?_; rintro e w' ⟨rfl, hw⟩; subst w'))
    go_ret
    exact ⟨rfl, HW7.out⟩
  · have hl' : decide ((4000 : Int) < (l.length : Int)) = true := by simp; omega
    go_enter Try.func3, Try.ntmps3
    go_wp2_with fail
    refine (first_any _).mono ?_
    rintro e w1 ⟨rfl, hB1⟩
    go_wp2
    go_ret
    exact ⟨rfl, hB1⟩

theorem frameSums_walk (a0 : Option Addr) (len0 cap0 : Nat) (z0 : List Int) (w : World) (w0 : IsRow .u8 w a0 len0 cap0 z0) :
    Calls Try.prog 3 #[.slice a0 len0 cap0] w fun e w' => e = .returned (.bool true) ∧ Below w.heap.size w w' := by
  obtain ⟨l, rfl, hs⟩ := isRow_sl w0
  exact frameSums_walk0 _ l w hs

set_option maxRecDepth 100000 in
theorem frameSums_lifted (os : Os) (started : os.Started) (H : Type) (enc : TypeId × Value → H) :
    ReturnsInHanded {} Try.checked os 3 .any (Rows.frameSumsSpec.pre6 enc Try.prog Try.f3 Rows.frameSumsRow.domain false) (Rows.frameSumsSpec.post enc Try.prog Try.f3 false true false false) := by
  refine returnsInHanded_of_change (C := Try.checked) own started (by kernel_rfl) Try.func3
    (ChangeSpec.witness6 (enc := enc) (C := Try.checked) false ⟨#[], #[.slice none 0 0], []⟩ 8 (by kernel_rfl) (by kernel_rfl) (by kernel_rfl) (by kernel_rfl)) ?_
  intro W base args ds gs before hval0 hW hcnd _
  have hval : ∀ (j : Nat) t v, Try.f3.params[j]? = some t → args[j]? = some v → Value.okWide Try.prog W .any base t v := hval0
  have hW' := hW
  obtain ⟨p, q, hA0, hV, rfl, hfz, hnd⟩ := hW
  have hA : DataW.TrodAll enc Try.prog W 0 (fun _ => true) true Try.f3.params.toList args.toList ds p := hA0
  rw [Try.params3] at hA hval
  obtain ⟨v0, vs0, d0, ds0, p0, q0, hargs, rfl, rfl, h0, r0⟩ := trodAll_cons hA
  obtain ⟨rfl, rfl, rfl⟩ := trodAll_nil r0
  obtain rfl : args = #[v0] := by cases args; simp_all
  obtain ⟨rfl, rfl⟩ := trodVars_none hV
  obtain ⟨a0, len0, cap0, rfl⟩ := okWide_slice Try.underlying22 (hval 0 22 v0 rfl rfl)
  have k0 := h0
  have lt0 : ∀ x ∈ p0, x.block < W.heap.size := by obtain ⟨m, hm⟩ := k0; exact DataW.trod_lt m _ _ _ hm
  obtain ⟨z0, w0⟩ : ∃ zs, IsRow .u8 W a0 len0 cap0 zs := by
    obtain ⟨fuel, hf⟩ := h0
    rcases open_ints Try.underlying22 Try.underlying5 (by kernel_rfl) hf with ⟨hcs, _⟩ | ⟨x, l, c, zs, hcs, _, hl, hm, hz, _, hcell, hwz⟩
    · simp [Value.cells] at hcs
      obtain ⟨rfl, rfl, rfl⟩ := hcs
      exact ⟨[], .inl ⟨rfl, rfl, rfl, rfl⟩⟩
    · simp [Value.cells] at hcs
      obtain ⟨rfl, rfl, rfl⟩ := hcs
      exact ⟨zs, .inr ⟨_, rfl, hl, hm, by simpa using hz, hcell, hwz⟩⟩
  clear hA0 hval0
  refine (frameSums_walk a0 len0 cap0 z0 W w0).mono fun e W' ⟨he, bel⟩ => ?_
  subst he
  exact ⟨_, rfl, _, _, _, [], _, [], hW', trodAll_mk1 (shut_bool Try.underlying4 _), (trodAll_cons_mk (Below.trod laidOut (by kernel_rfl) (of_decide_eq_true (by kernel_rfl)) k0 bel lt0) trodAll_mk0), rfl, bel.frame _, fun h => by cases h⟩

theorem frameSums_holds : Rows.FrameSumsSaid :=
  OpenClaim.holds_of_wide 3 Try.f3 rfl rfl rfl rfl rfl rfl rfl ⟨rfl, rfl, rfl, rfl, rfl⟩ rfl rfl rfl rfl rfl (by kernel_rfl) Try.func3 (by kernel_rfl)
    (of_decide_eq_true (by kernel_rfl)) (by unfold Func.isWrapper; first | (rw [if_pos (by decide +kernel)]; kernel_rfl) | (rw [if_neg (by decide +kernel)]; exact ⟨rfl, rfl⟩))
    (fun os started H enc _ => frameSums_lifted os started H enc)
#print axioms frameSums_holds
end Go.Proofs.Ythhnjiodfbckcaa
