/-
  LinLess: a history that is judged true stays so with less, for every history, place, operation and number.
-/
import Derived.Test.YtbcnpdpdflkanaaLl
import Derived.Test.YtbcnpdpdflkanaaRin
import Derived.Test.YtbcnpdpdflkanaaRows
namespace Go.Proofs.Ytbcnpdpdflkanaa
open Go.ChangeShapes Go.WideShapes Go.ChangeAt Go.RowKit
set_option linter.unusedVariables false

set_option maxRecDepth 100000 in
theorem linLess_lifted (os : Os) (started : os.Started) (H : Type) (enc : TypeId × Value → H) :
    ReturnsInHanded {} Try.checked os 7 .any (Rows.linLessSpec.pre6 enc Try.prog Try.f7 Rows.linLessRow.domain false) (Rows.linLessSpec.post enc Try.prog Try.f7 false true false false) := by
  refine returnsInHanded_of_change (C := Try.checked) own started (by kernel_rfl) Try.func7
    (ChangeSpec.witness6 (enc := enc) (C := Try.checked) false ⟨#[], #[.slice none 0 0, .int .i64 0, .agg #[.int .i64 0, .int .i64 0, .int .i64 0, .string ⟨#[]⟩, .string ⟨#[]⟩, .string ⟨#[]⟩, .int .i64 0, .int .i64 0, .int .i64 0, .string ⟨#[]⟩], .int .i64 0], []⟩ 8 (by kernel_rfl) (by kernel_rfl) (by kernel_rfl) (by kernel_rfl)) ?_
  intro W base args ds gs before hval0 hW hcnd _
  have hval : ∀ (j : Nat) t v, Try.f7.params[j]? = some t → args[j]? = some v → Value.okWide Try.prog W .any base t v := hval0
  have hW' := hW
  obtain ⟨p, q, hA0, hV, rfl, hfz, hnd⟩ := hW
  have hA : DataW.TrodAll enc Try.prog W 0 (fun _ => true) true Try.f7.params.toList args.toList ds p := hA0
  rw [Try.params7] at hA hval
  obtain ⟨v0, vs0, d0, ds0, p0, q0, hargs, rfl, rfl, h0, r0⟩ := trodAll_cons hA
  obtain ⟨v1, vs1, d1, ds1, p1, q1, rfl, rfl, rfl, h1, r1⟩ := trodAll_cons r0
  obtain ⟨v2, vs2, d2, ds2, p2, q2, rfl, rfl, rfl, h2, r2⟩ := trodAll_cons r1
  obtain ⟨v3, vs3, d3, ds3, p3, q3, rfl, rfl, rfl, h3, r3⟩ := trodAll_cons r2
  obtain ⟨rfl, rfl, rfl⟩ := trodAll_nil r3
  obtain rfl : args = #[v0, v1, v2, v3] := by cases args; simp_all
  obtain ⟨rfl, rfl⟩ := trodVars_none hV
  have k0 := h0
  have lt0 : ∀ x ∈ p0, x.block < W.heap.size := by obtain ⟨m, hm⟩ := k0; exact DataW.trod_lt m _ _ _ hm
  have k1 := h1
  have lt1 : ∀ x ∈ p1, x.block < W.heap.size := by obtain ⟨m, hm⟩ := k1; exact DataW.trod_lt m _ _ _ hm
  have k2 := h2
  have lt2 : ∀ x ∈ p2, x.block < W.heap.size := by obtain ⟨m, hm⟩ := k2; exact DataW.trod_lt m _ _ _ hm
  have k3 := h3
  have lt3 : ∀ x ∈ p3, x.block < W.heap.size := by obtain ⟨m, hm⟩ := k3; exact DataW.trod_lt m _ _ _ hm
  obtain ⟨a0, l0, c0, rfl⟩ := okWide_slice Try.underlying22 (hval 0 22 v0 rfl rfl)
  obtain ⟨fuel0, hf0⟩ := h0
  obtain ⟨ea0, ec0, es0, he0, s0, t0, u0, w0, x0⟩ := inOps (by simpa [Value.cells] using hf0)
  cases he0
  obtain ⟨fuel1, hf1⟩ := h1
  obtain ⟨z1, hz1⟩ := okWide_int Try.underlying3 (hval 1 3 v1 rfl rfl)
  subst hz1
  obtain ⟨zz1, hzz1, -, hw1⟩ := DataW.trod_int Try.underlying3 (by simpa [Value.cells] using hf1)
  simp at hzz1
  subst hzz1
  have hb1 : In64 z1 := by have := bounds_i64 hw1; exact ⟨by omega, by omega⟩
  obtain ⟨cs2, rfl, hsz2⟩ := okWide_struct Try.underlying35 (hval 2 35 v2 rfl rfl)
  rw [cellsOfO] at hsz2
  obtain ⟨fuel2, hf2⟩ := h2
  obtain ⟨o2, hcs2, x2, y2, u2, w2⟩ := inOp (by simpa [Value.cells] using hsz2) hf2
  obtain rfl : cs2 = o2.cells := by
    have := congrArg List.toArray hcs2
    simpa [Value.cells] using this
  obtain ⟨fuel3, hf3⟩ := h3
  obtain ⟨z3, hz3⟩ := okWide_int Try.underlying3 (hval 3 3 v3 rfl rfl)
  subst hz3
  obtain ⟨zz3, hzz3, -, hw3⟩ := DataW.trod_int Try.underlying3 (by simpa [Value.cells] using hf3)
  simp at hzz3
  subst hzz3
  have hb3 : In64 z3 := by have := bounds_i64 hw3; exact ⟨by omega, by omega⟩
  clear hA0 hval0
  refine (less_walk W _ _ es0 s0 t0 u0 w0 x0 z1 o2 ⟨x2, y2, u2, w2⟩ z3).mono fun e W' ⟨he, bel⟩ => ?_
  subst he
  exact ⟨_, rfl, _, _, _, [], _, [], hW', trodAll_mk1 (shut_bool Try.underlying4 _), (trodAll_cons_mk (Below.trod laidOut (by kernel_rfl) (of_decide_eq_true (by kernel_rfl)) k0 bel lt0) (trodAll_cons_mk (Below.trod laidOut (by kernel_rfl) (of_decide_eq_true (by kernel_rfl)) k1 bel lt1) (trodAll_cons_mk (Below.trod laidOut (by kernel_rfl) (of_decide_eq_true (by kernel_rfl)) k2 bel lt2) (trodAll_cons_mk (Below.trod laidOut (by kernel_rfl) (of_decide_eq_true (by kernel_rfl)) k3 bel lt3) trodAll_mk0)))), rfl, bel.frame _, fun h => by cases h⟩

theorem linLess_holds : Rows.LinLessSaid :=
  OpenClaim.holds_of_wide 7 Try.f7 rfl rfl rfl rfl rfl rfl rfl ⟨rfl, rfl, rfl, rfl, rfl⟩ rfl rfl rfl rfl rfl (by kernel_rfl) Try.func7 (by kernel_rfl)
    (of_decide_eq_true (by kernel_rfl)) (by unfold Func.isWrapper; first | (rw [if_pos (by decide +kernel)]; kernel_rfl) | (rw [if_neg (by decide +kernel)]; exact ⟨rfl, rfl⟩))
    (fun os started H enc _ => linLess_lifted os started H enc)
#print axioms linLess_holds
end Go.Proofs.Ytbcnpdpdflkanaa
