/-
  For every puts the law WireWrites returns true, and the puts read as they did; no condition.
-/
import Derived.Test.YtndgfkgfonfliaaWrites
namespace Go.Proofs.Ytndgfkgfonfliaa
open Go.ChangeShapes Go.WideShapes Go.ChangeAt Go.RowKit

set_option maxRecDepth 100000 in
theorem wireWrites_lifted (os : Os) (started : os.Started) (H : Type) (enc : TypeId × Value → H) :
    ReturnsInHanded {} Try.checked os 5 .any (Rows.wireWritesSpec.pre6 enc Try.prog Try.f5 Rows.wireWritesRow.domain false) (Rows.wireWritesSpec.post enc Try.prog Try.f5 false true false false) := by
  refine returnsInHanded_of_change_sized (C := Try.checked) own started (by kernel_rfl) Try.func5
    (ChangeSpec.witness6 (enc := enc) (C := Try.checked) false ⟨#[], #[.slice none 0 0], []⟩ 8 (by kernel_rfl) (by kernel_rfl) (by kernel_rfl) (by kernel_rfl)) ?_
  have inh : Inhabited PutD := ⟨⟨0, 0, 0, false, none, 0, []⟩⟩
  intro W base args ds gs before hval0 hW hcnd hsz0 _
  have hsz : (DataW.weightsEach Try.prog (Try.f5.params.toList ++ Rows.wireWritesSpec.plain.varTypes Try.prog) (ds ++ gs)).all (· ≤ reachBytes) = true := hsz0
  have hval : ∀ (j : Nat) t v, Try.f5.params[j]? = some t → args[j]? = some v → Value.okWide Try.prog W .any base t v := hval0
  have hW' := hW
  obtain ⟨p, q, hA0, hV, rfl, hfz, hnd⟩ := hW
  have hA : DataW.TrodAll enc Try.prog W 0 (fun _ => true) true Try.f5.params.toList args.toList ds p := hA0
  rw [Try.params5] at hA hval hsz
  obtain ⟨v0, vs0, d0, ds0, p0, q0, hargs, rfl, rfl, h0, r0⟩ := trodAll_cons hA
  obtain ⟨rfl, rfl, rfl⟩ := trodAll_nil r0
  obtain rfl : args = #[v0] := by cases args; simp_all
  obtain ⟨rfl, rfl⟩ := trodVars_none hV
  obtain ⟨a0, len0, cap0, rfl⟩ := okWide_slice Try.underlying39 (hval 0 39 v0 rfl rfl)
  have k0 := h0
  have lt0 : ∀ x ∈ p0, x.block < W.heap.size := by obtain ⟨m, hm⟩ := k0; exact DataW.trod_lt m _ _ _ hm
  obtain ⟨D, w0, hn⟩ : ∃ D, PutsAt W.heap.size W a0 len0 D ∧ len0 * 56 ≤ 140737488351232 := by
    obtain ⟨fuel, hf⟩ := h0
    rcases Deep.open_slice Try.underlying39 hf with ⟨hcs, _⟩ | ⟨x, l, c, m, n, E, Pl, hcs, _, hl, hm, hmm, hx, hcell⟩
    · simp [Value.cells] at hcs
      obtain ⟨rfl, rfl, rfl⟩ := hcs
      exact ⟨fun _ => default, .inl rfl, by omega⟩
    · simp [Value.cells] at hcs
      obtain ⟨rfl, rfl, rfl⟩ := hcs
      simp only [Prod.mk.injEq] at hx
      obtain ⟨rfl, rfl⟩ := hx
      have hreach : len0 * 56 ≤ 140737488351232 := by
        have := sized_slice hsz (j := 0) (t := 39) (e := 49) rfl rfl Try.underlying39
        rw [bytes49] at this
        simp only [List.length_map, List.length_range, reachBytes] at this
        omega
      by_cases hz : len0 = 0
      · exact ⟨fun _ => default, .inl hz, hreach⟩
      · have hml : len0 ≤ m := by rw [hmm]; split <;> omega
        obtain ⟨b, off, spot⟩ := x
        have hspot : spot = none := by
          obtain ⟨cs', hc', -⟩ := hcell 0 (by omega)
          rw [cells49] at hc'
          obtain ⟨_, hlen, hc⟩ := World.cells?_some hc'
          have h00 := hc 0 (by omega)
          rw [List.getElem?_eq_getElem (by omega)] at h00
          simpa [Addr.add] using World.cell?_spot h00
        subst hspot
        have each : ∀ i, i < len0 → ∃ d : PutD, W.cell? ⟨b, off + i * 5, none⟩ = some (.int .i64 d.kind) ∧ W.cell? ⟨b, off + i * 5 + 1, none⟩ = some (.int .i64 d.n) ∧ W.cell? ⟨b, off + i * 5 + 2, none⟩ = some (.int .i64 d.most) ∧ W.cell? ⟨b, off + i * 5 + 3, none⟩ = some (.bool d.t) ∧ W.cell? ⟨b, off + i * 5 + 4, none⟩ = some d.x ∧ Sl W.heap.size W d.x d.bs := by
          intro i hi
          obtain ⟨cs', hc', ht⟩ := hcell i (by omega)
          rw [cells49, Addr.add_lit] at hc'
          exact put_in hc' ht
        obtain ⟨D, hD⟩ := Deep.choose_lt each
        refine ⟨D, .inr ⟨b, off, rfl, ?_, hD⟩, hreach⟩
        have := cell_lt (hD 0 (by omega)).1
        exact this
  clear hA0 hval0
  refine (wireWrites_walk0 a0 len0 cap0 D W w0 hn).mono fun e W' ⟨he, bel⟩ => ?_
  subst he
  exact ⟨_, rfl, _, _, _, [], _, [], hW', trodAll_mk1 (shut_bool Try.underlying4 _), (trodAll_cons_mk (Below.trod laidOut (by kernel_rfl) (of_decide_eq_true (by kernel_rfl)) k0 bel lt0) trodAll_mk0), rfl, bel.frame _, fun h => by cases h⟩

theorem wireWrites_holds : Rows.WireWritesSaid :=
  OpenClaim.holds_of_wide 5 Try.f5 rfl rfl rfl rfl rfl rfl rfl ⟨rfl, rfl, rfl, rfl, rfl⟩ rfl rfl rfl rfl rfl (by kernel_rfl) Try.func5 (by kernel_rfl)
    (of_decide_eq_true (by kernel_rfl)) (by unfold Func.isWrapper; first | (rw [if_pos (by decide +kernel)]; kernel_rfl) | (rw [if_neg (by decide +kernel)]; exact ⟨rfl, rfl⟩))
    (fun os started H enc _ => wireWrites_lifted os started H enc)
#print axioms wireWrites_holds
end Go.Proofs.Ytndgfkgfonfliaa
