/-
  KvCommutes: commands of unlike clients on unlike keys change places, for every list of commands and every two commands.
-/
import Derived.Test.YtglhjgfaelfleabCt
import Derived.Test.YtglhjgfaelfleabRin
import Derived.Test.YtglhjgfaelfleabRows
namespace Go.Proofs.Ytglhjgfaelfleab
open Go.ChangeShapes Go.WideShapes Go.ChangeAt Go.RowKit
set_option linter.unusedVariables false

set_option maxRecDepth 100000 in
theorem kvCommutes_lifted (os : Os) (started : os.Started) (H : Type) (enc : TypeId × Value → H) :
    ReturnsInHanded {} Try.checked os 4 .any (Rows.kvCommutesSpec.pre6 enc Try.prog Try.f4 Rows.kvCommutesRow.domain false) (Rows.kvCommutesSpec.post enc Try.prog Try.f4 false true false false) := by
  refine returnsInHanded_of_change (C := Try.checked) own started (by kernel_rfl) Try.func4
    (ChangeSpec.witness6 (enc := enc) (C := Try.checked) false ⟨#[], #[.slice none 0 0, .agg #[.int .i64 0, .int .i64 0, .int .i64 0, .string ⟨#[]⟩, .string ⟨#[]⟩, .string ⟨#[]⟩], .agg #[.int .i64 0, .int .i64 0, .int .i64 0, .string ⟨#[]⟩, .string ⟨#[]⟩, .string ⟨#[]⟩]], []⟩ 8 (by kernel_rfl) (by kernel_rfl) (by kernel_rfl) (by kernel_rfl)) ?_
  intro W base args ds gs before hval0 hW hcnd _
  have hval : ∀ (j : Nat) t v, Try.f4.params[j]? = some t → args[j]? = some v → Value.okWide Try.prog W .any base t v := hval0
  have hW' := hW
  obtain ⟨p, q, hA0, hV, rfl, hfz, hnd⟩ := hW
  have hA : DataW.TrodAll enc Try.prog W 0 (fun _ => true) true Try.f4.params.toList args.toList ds p := hA0
  rw [Try.params4] at hA hval
  obtain ⟨v0, vs0, d0, ds0, p0, q0, hargs, rfl, rfl, h0, r0⟩ := trodAll_cons hA
  obtain ⟨v1, vs1, d1, ds1, p1, q1, rfl, rfl, rfl, h1, r1⟩ := trodAll_cons r0
  obtain ⟨v2, vs2, d2, ds2, p2, q2, rfl, rfl, rfl, h2, r2⟩ := trodAll_cons r1
  obtain ⟨rfl, rfl, rfl⟩ := trodAll_nil r2
  obtain rfl : args = #[v0, v1, v2] := by cases args; simp_all
  obtain ⟨rfl, rfl⟩ := trodVars_none hV
  have k0 := h0
  have lt0 : ∀ x ∈ p0, x.block < W.heap.size := by obtain ⟨m, hm⟩ := k0; exact DataW.trod_lt m _ _ _ hm
  have k1 := h1
  have lt1 : ∀ x ∈ p1, x.block < W.heap.size := by obtain ⟨m, hm⟩ := k1; exact DataW.trod_lt m _ _ _ hm
  have k2 := h2
  have lt2 : ∀ x ∈ p2, x.block < W.heap.size := by obtain ⟨m, hm⟩ := k2; exact DataW.trod_lt m _ _ _ hm
  obtain ⟨a0, l0, c0, rfl⟩ := okWide_slice Try.underlying22 (hval 0 22 v0 rfl rfl)
  obtain ⟨fuel0, hf0⟩ := h0
  obtain ⟨ea0, ec0, es0, he0, s0⟩ := inCmds (by simpa [Value.cells] using hf0)
  cases he0
  obtain ⟨cs1, rfl, hsz1⟩ := okWide_struct Try.underlying34 (hval 1 34 v1 rfl rfl)
  rw [cellsOfC] at hsz1
  obtain ⟨fuel1, hf1⟩ := h1
  obtain ⟨o1, c1, n1, ky1, vl1, od1, hcs1, x1, y1, u1⟩ := inCommand (by simpa [Value.cells] using hsz1) hf1
  obtain rfl : cs1 = #[.int .i64 o1, .int .i64 c1, .int .i64 n1, .string ⟨ky1.toArray⟩, .string ⟨vl1.toArray⟩, .string ⟨od1.toArray⟩] := by
    have := congrArg List.toArray hcs1
    simpa [Value.cells] using this
  obtain ⟨cs2, rfl, hsz2⟩ := okWide_struct Try.underlying34 (hval 2 34 v2 rfl rfl)
  rw [cellsOfC] at hsz2
  obtain ⟨fuel2, hf2⟩ := h2
  obtain ⟨o2, c2, n2, ky2, vl2, od2, hcs2, x2, y2, u2⟩ := inCommand (by simpa [Value.cells] using hsz2) hf2
  obtain rfl : cs2 = #[.int .i64 o2, .int .i64 c2, .int .i64 n2, .string ⟨ky2.toArray⟩, .string ⟨vl2.toArray⟩, .string ⟨od2.toArray⟩] := by
    have := congrArg List.toArray hcs2
    simpa [Value.cells] using this
  clear hA0 hval0
  refine (commutes_walk W _ _ es0 s0 ⟨o1, c1, n1, ky1, vl1, od1⟩ ⟨o2, c2, n2, ky2, vl2, od2⟩ ⟨x1, y1, u1⟩ ⟨x2, y2, u2⟩).mono fun e W' ⟨he, bel⟩ => ?_
  subst he
  exact ⟨_, rfl, _, _, _, [], _, [], hW', trodAll_mk1 (shut_bool Try.underlying4 _), (trodAll_cons_mk (Below.trod laidOut (by kernel_rfl) (of_decide_eq_true (by kernel_rfl)) k0 bel lt0) (trodAll_cons_mk (Below.trod laidOut (by kernel_rfl) (of_decide_eq_true (by kernel_rfl)) k1 bel lt1) (trodAll_cons_mk (Below.trod laidOut (by kernel_rfl) (of_decide_eq_true (by kernel_rfl)) k2 bel lt2) trodAll_mk0))), rfl, bel.frame _, fun h => by cases h⟩

theorem kvCommutes_holds : Rows.KvCommutesSaid :=
  OpenClaim.holds_of_wide 4 Try.f4 rfl rfl rfl rfl rfl rfl rfl ⟨rfl, rfl, rfl, rfl, rfl⟩ rfl rfl rfl rfl rfl (by kernel_rfl) Try.func4 (by kernel_rfl)
    (of_decide_eq_true (by kernel_rfl)) (by unfold Func.isWrapper; first | (rw [if_pos (by decide +kernel)]; kernel_rfl) | (rw [if_neg (by decide +kernel)]; exact ⟨rfl, rfl⟩))
    (fun os started H enc _ => kvCommutes_lifted os started H enc)
#print axioms kvCommutes_holds
end Go.Proofs.Ytglhjgfaelfleab
