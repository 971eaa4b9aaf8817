/-
  LogTwice: a Try made twice is made once, for every log of terms and every entries.
-/
import Derived.Test.YteekpfgjpdopmabTc
import Derived.Test.YteekpfgjpdopmabRin
import Derived.Test.YteekpfgjpdopmabRows
namespace Go.Proofs.Yteekpfgjpdopmab
open Go.ChangeShapes Go.WideShapes Go.ChangeAt Go.RowKit
set_option linter.unusedVariables false

set_option maxRecDepth 100000 in
theorem logTwice_lifted (os : Os) (started : os.Started) (H : Type) (enc : TypeId × Value → H) :
    ReturnsInHanded {} Try.checked os 3 .any (Rows.logTwiceSpec.pre6 enc Try.prog Try.f3 Rows.logTwiceRow.domain false) (Rows.logTwiceSpec.post enc Try.prog Try.f3 false true false false) := by
  refine returnsInHanded_of_change (C := Try.checked) own started (by kernel_rfl) Try.func3
    (ChangeSpec.witness6 (enc := enc) (C := Try.checked) false ⟨#[], #[.slice none 0 0, .int .i64 0, .int .i64 0, .int .i64 0, .slice none 0 0], []⟩ 8 (by kernel_rfl) (by kernel_rfl) (by kernel_rfl) (by kernel_rfl)) ?_
  intro W base args ds gs before hval0 hW hcnd _
  have hval : ∀ (j : Nat) t v, Try.f3.params[j]? = some t → args[j]? = some v → Value.okWide Try.prog W .any base t v := hval0
  have hW' := hW
  obtain ⟨p, q, hA0, hV, rfl, hfz, hnd⟩ := hW
  have hA : DataW.TrodAll enc Try.prog W 0 (fun _ => true) true Try.f3.params.toList args.toList ds p := hA0
  rw [Try.params3] at hA hval
  obtain ⟨v0, vs0, d0, ds0, p0, q0, hargs, rfl, rfl, h0, r0⟩ := trodAll_cons hA
  obtain ⟨v1, vs1, d1, ds1, p1, q1, rfl, rfl, rfl, h1, r1⟩ := trodAll_cons r0
  obtain ⟨v2, vs2, d2, ds2, p2, q2, rfl, rfl, rfl, h2, r2⟩ := trodAll_cons r1
  obtain ⟨v3, vs3, d3, ds3, p3, q3, rfl, rfl, rfl, h3, r3⟩ := trodAll_cons r2
  obtain ⟨v4, vs4, d4, ds4, p4, q4, rfl, rfl, rfl, h4, r4⟩ := trodAll_cons r3
  obtain ⟨rfl, rfl, rfl⟩ := trodAll_nil r4
  obtain rfl : args = #[v0, v1, v2, v3, v4] := by cases args; simp_all
  obtain ⟨rfl, rfl⟩ := trodVars_none hV
  have k0 := h0
  have lt0 : ∀ x ∈ p0, x.block < W.heap.size := by obtain ⟨m, hm⟩ := k0; exact DataW.trod_lt m _ _ _ hm
  have k1 := h1
  have lt1 : ∀ x ∈ p1, x.block < W.heap.size := by obtain ⟨m, hm⟩ := k1; exact DataW.trod_lt m _ _ _ hm
  have k2 := h2
  have lt2 : ∀ x ∈ p2, x.block < W.heap.size := by obtain ⟨m, hm⟩ := k2; exact DataW.trod_lt m _ _ _ hm
  have k3 := h3
  have lt3 : ∀ x ∈ p3, x.block < W.heap.size := by obtain ⟨m, hm⟩ := k3; exact DataW.trod_lt m _ _ _ hm
  have k4 := h4
  have lt4 : ∀ x ∈ p4, x.block < W.heap.size := by obtain ⟨m, hm⟩ := k4; exact DataW.trod_lt m _ _ _ hm
  obtain ⟨a0, l0, c0, rfl⟩ := okWide_slice Try.underlying22 (hval 0 22 v0 rfl rfl)
  obtain ⟨fuel0, hf0⟩ := h0
  obtain ⟨x0, e0, s0⟩ := inInts (by simpa [Value.cells] using hf0)
  obtain ⟨fuel1, hf1⟩ := h1
  obtain ⟨z1, hz1⟩ := okWide_int Try.underlying3 (hval 1 3 v1 rfl rfl)
  subst hz1
  obtain ⟨zz1, hzz1, -, hw1⟩ := DataW.trod_int Try.underlying3 (by simpa [Value.cells] using hf1)
  simp at hzz1
  subst hzz1
  have hb1 : In64 z1 := by have := bounds_i64 hw1; exact ⟨by omega, by omega⟩
  obtain ⟨fuel2, hf2⟩ := h2
  obtain ⟨z2, hz2⟩ := okWide_int Try.underlying3 (hval 2 3 v2 rfl rfl)
  subst hz2
  obtain ⟨zz2, hzz2, -, hw2⟩ := DataW.trod_int Try.underlying3 (by simpa [Value.cells] using hf2)
  simp at hzz2
  subst hzz2
  have hb2 : In64 z2 := by have := bounds_i64 hw2; exact ⟨by omega, by omega⟩
  obtain ⟨fuel3, hf3⟩ := h3
  obtain ⟨z3, hz3⟩ := okWide_int Try.underlying3 (hval 3 3 v3 rfl rfl)
  subst hz3
  obtain ⟨zz3, hzz3, -, hw3⟩ := DataW.trod_int Try.underlying3 (by simpa [Value.cells] using hf3)
  simp at hzz3
  subst hzz3
  have hb3 : In64 z3 := by have := bounds_i64 hw3; exact ⟨by omega, by omega⟩
  obtain ⟨a4, l4, c4, rfl⟩ := okWide_slice Try.underlying23 (hval 4 23 v4 rfl rfl)
  obtain ⟨fuel4, hf4⟩ := h4
  obtain ⟨ea4, ec4, es4, he4, s4⟩ := inEnts (by simpa [Value.cells] using hf4)
  cases he4
  clear hA0 hval0
  refine (logTwice_in W x0 s0 z1 hb1 z2 hb2 z3 hb3 es4 s4).mono fun e W' ⟨he, bel⟩ => ?_
  subst he
  exact ⟨_, rfl, _, _, _, [], _, [], hW', trodAll_mk1 (shut_bool Try.underlying4 _), (trodAll_cons_mk (Below.trod laidOut (by kernel_rfl) (of_decide_eq_true (by kernel_rfl)) k0 bel lt0) (trodAll_cons_mk (Below.trod laidOut (by kernel_rfl) (of_decide_eq_true (by kernel_rfl)) k1 bel lt1) (trodAll_cons_mk (Below.trod laidOut (by kernel_rfl) (of_decide_eq_true (by kernel_rfl)) k2 bel lt2) (trodAll_cons_mk (Below.trod laidOut (by kernel_rfl) (of_decide_eq_true (by kernel_rfl)) k3 bel lt3) (trodAll_cons_mk (Below.trod laidOut (by kernel_rfl) (of_decide_eq_true (by kernel_rfl)) k4 bel lt4) trodAll_mk0))))), rfl, bel.frame _, fun h => by cases h⟩

theorem logTwice_holds : Rows.LogTwiceSaid :=
  OpenClaim.holds_of_wide 3 Try.f3 rfl rfl rfl rfl rfl rfl rfl ⟨rfl, rfl, rfl, rfl, rfl⟩ rfl rfl rfl rfl rfl (by kernel_rfl) Try.func3 (by kernel_rfl)
    (of_decide_eq_true (by kernel_rfl)) (by unfold Func.isWrapper; first | (rw [if_pos (by decide +kernel)]; kernel_rfl) | (rw [if_neg (by decide +kernel)]; exact ⟨rfl, rfl⟩))
    (fun os started H enc _ => logTwice_lifted os started H enc)
#print axioms logTwice_holds
end Go.Proofs.Yteekpfgjpdopmab
