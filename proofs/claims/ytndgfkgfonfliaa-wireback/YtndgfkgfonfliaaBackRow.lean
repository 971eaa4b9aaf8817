/-
  For every puts the law WireBack returns true, and the puts read as they did; no condition.
-/
import Derived.Test.YtndgfkgfonfliaaBack
import Derived.Deep.SlicePairs
namespace Go.Proofs.Ytndgfkgfonfliaa
open Go.ChangeShapes Go.WideShapes Go.ChangeAt Go.RowKit

theorem under49 : ∃ f0 f1 f2 f3 f4 : Field, Try.prog.underlying 49 = some (.struct #[f0, f1, f2, f3, f4]) ∧ (f0.offset = 0 ∧ f1.offset = 1 ∧ f2.offset = 2 ∧ f3.offset = 3 ∧ f4.offset = 4) ∧ f0.type = 3 ∧ f1.type = 3 ∧ f2.type = 3 ∧ f3.type = 4 ∧ f4.type = 23 := ⟨_, _, _, _, _, Try.underlying49, ⟨rfl, rfl, rfl, rfl, rfl⟩, rfl, rfl, rfl, rfl, rfl⟩
theorem cells49 : Try.prog.cellsOf 49 = 5 := by kernel_rfl
theorem cellsOf3 : Try.prog.cellsOf 3 = 1 := by kernel_rfl
theorem cellsOf4 : Try.prog.cellsOf 4 = 1 := by kernel_rfl
theorem cellsOf23 : Try.prog.cellsOf 23 = 1 := by kernel_rfl
theorem bytes49 : Try.prog.bytesOf 49 = 56 := by kernel_rfl

/-- One put that came in. -/
theorem put_in {H : Type} {enc : TypeId × Value → H} {W : World} {n : Nat} {b off : Nat} {cs : List Value} {x : DataW H × List MemPlace} (hc : W.cells? 0 ⟨b, off, none⟩ 5 = some cs) (h : DataW.trod enc Try.prog W 0 (fun _ => true) true n 49 cs = some x) :
    ∃ d : PutD, W.cell? ⟨b, off, none⟩ = some (.int .i64 d.kind) ∧ W.cell? ⟨b, off + 1, none⟩ = some (.int .i64 d.n) ∧ W.cell? ⟨b, off + 2, none⟩ = some (.int .i64 d.most) ∧ W.cell? ⟨b, off + 3, none⟩ = some (.bool d.t) ∧ W.cell? ⟨b, off + 4, none⟩ = some d.x ∧ Sl W.heap.size W d.x d.bs := by
  obtain ⟨f0, f1, f2, f3, f4, hu, ⟨o0, o1, o2, o3, o4⟩, t0, t1, t2, t3, t4⟩ := under49
  obtain ⟨_, hlen, hcell⟩ := World.cells?_some hc
  obtain ⟨xs, k, _, _, _, hxl, hf⟩ := DataW.trod_struct hu h
  match xs, hxl, cs, hlen with
  | [y0, y1, y2, y3, y4], _, [v0, v1, v2, v3, v4], _ =>
    have g0 := hf 0 f0 rfl
    have g1 := hf 1 f1 rfl
    have g2 := hf 2 f2 rfl
    have g3 := hf 3 f3 rfl
    have g4 := hf 4 f4 rfl
    rw [o0, t0, cellsOf3] at g0
    rw [o1, t1, cellsOf3] at g1
    rw [o2, t2, cellsOf3] at g2
    rw [o3, t3, cellsOf4] at g3
    rw [o4, t4, cellsOf23] at g4
    simp at g0 g1 g2 g3 g4
    obtain ⟨z0, e0, -, -⟩ := DataW.trod_int Try.underlying3 g0
    obtain ⟨z1, e1, -, -⟩ := DataW.trod_int Try.underlying3 g1
    obtain ⟨z2, e2, -, -⟩ := DataW.trod_int Try.underlying3 g2
    obtain ⟨z3, e3, -⟩ := DataW.trod_bool Try.underlying4 g3
    simp at e0 e1 e2 e3
    subst e0 e1 e2 e3
    have c0 := hcell 0 (by omega)
    have c1 := hcell 1 (by omega)
    have c2 := hcell 2 (by omega)
    have c3 := hcell 3 (by omega)
    have c4 := hcell 4 (by omega)
    rw [Addr.add_lit] at c0 c1 c2 c3 c4
    simp at c0 c1 c2 c3 c4
    obtain ⟨a4, n4, k4, e4, zs, w4⟩ : ∃ a4 n4 k4, v4 = .slice a4 n4 k4 ∧ ∃ zs, IsRow .u8 W a4 n4 k4 zs := by
      rcases open_ints Try.underlying23 Try.underlying5 (by kernel_rfl) g4 with ⟨hcs, _⟩ | ⟨x, l, c, zs, hcs, _, hl, hm, hz, _, hcell, hwz⟩
      · simp at hcs
        exact ⟨none, 0, 0, hcs, [], .inl ⟨rfl, rfl, rfl, rfl⟩⟩
      · simp at hcs
        exact ⟨some x, l, c, hcs, zs, .inr ⟨_, rfl, hl, hm, by simpa using hz, hcell, hwz⟩⟩
    subst e4
    obtain ⟨l, hl, hs⟩ := isRow_sl w4
    subst hl
    exact ⟨⟨z0, z1, z2, z3, a4, k4, l⟩, c0, c1, c2, c3, c4, hs⟩

set_option maxRecDepth 100000 in
theorem wireBack_lifted (os : Os) (started : os.Started) (H : Type) (enc : TypeId × Value → H) :
    ReturnsInHanded {} Try.checked os 7 .any (Rows.wireBackSpec.pre6 enc Try.prog Try.f7 Rows.wireBackRow.domain false) (Rows.wireBackSpec.post enc Try.prog Try.f7 false true false false) := by
  refine returnsInHanded_of_change_sized (C := Try.checked) own started (by kernel_rfl) Try.func7
    (ChangeSpec.witness6 (enc := enc) (C := Try.checked) false ⟨#[], #[.slice none 0 0], []⟩ 8 (by kernel_rfl) (by kernel_rfl) (by kernel_rfl) (by kernel_rfl)) ?_
  have inh : Inhabited PutD := ⟨⟨0, 0, 0, false, none, 0, []⟩⟩
  intro W base args ds gs before hval0 hW hcnd hsz0 _
  have hsz : (DataW.weightsEach Try.prog (Try.f7.params.toList ++ Rows.wireBackSpec.plain.varTypes Try.prog) (ds ++ gs)).all (· ≤ reachBytes) = true := hsz0
  have hval : ∀ (j : Nat) t v, Try.f7.params[j]? = some t → args[j]? = some v → Value.okWide Try.prog W .any base t v := hval0
  have hW' := hW
  obtain ⟨p, q, hA0, hV, rfl, hfz, hnd⟩ := hW
  have hA : DataW.TrodAll enc Try.prog W 0 (fun _ => true) true Try.f7.params.toList args.toList ds p := hA0
  rw [Try.params7] at hA hval hsz
  obtain ⟨v0, vs0, d0, ds0, p0, q0, hargs, rfl, rfl, h0, r0⟩ := trodAll_cons hA
  obtain ⟨rfl, rfl, rfl⟩ := trodAll_nil r0
  obtain rfl : args = #[v0] := by cases args; simp_all
  obtain ⟨rfl, rfl⟩ := trodVars_none hV
  obtain ⟨a0, len0, cap0, rfl⟩ := okWide_slice Try.underlying39 (hval 0 39 v0 rfl rfl)
  have k0 := h0
  have lt0 : ∀ x ∈ p0, x.block < W.heap.size := by obtain ⟨m, hm⟩ := k0; exact DataW.trod_lt m _ _ _ hm
  obtain ⟨D, w0, hn⟩ : ∃ D, PutsAt W.heap.size W a0 len0 D ∧ len0 * 56 ≤ 140737488351232 := by
    obtain ⟨fuel, hf⟩ := h0
    rcases Deep.open_slice Try.underlying39 hf with ⟨hcs, _⟩ | ⟨x, l, c, m, n, E, Pl, hcs, _, hl, hm, hmm, hx, hcell⟩
    · simp [Value.cells] at hcs
      obtain ⟨rfl, rfl, rfl⟩ := hcs
      exact ⟨fun _ => default, .inl rfl, by omega⟩
    · simp [Value.cells] at hcs
      obtain ⟨rfl, rfl, rfl⟩ := hcs
      simp only [Prod.mk.injEq] at hx
      obtain ⟨rfl, rfl⟩ := hx
      have hreach : len0 * 56 ≤ 140737488351232 := by
        have := sized_slice hsz (j := 0) (t := 39) (e := 49) rfl rfl Try.underlying39
        rw [bytes49] at this
        simp only [List.length_map, List.length_range, reachBytes] at this
        omega
      by_cases hz : len0 = 0
      · exact ⟨fun _ => default, .inl hz, hreach⟩
      · have hml : len0 ≤ m := by rw [hmm]; split <;> omega
        obtain ⟨b, off, spot⟩ := x
        have hspot : spot = none := by
          obtain ⟨cs', hc', -⟩ := hcell 0 (by omega)
          rw [cells49] at hc'
          obtain ⟨_, hlen, hc⟩ := World.cells?_some hc'
          have h00 := hc 0 (by omega)
          rw [List.getElem?_eq_getElem (by omega)] at h00
          simpa [Addr.add] using World.cell?_spot h00
        subst hspot
        have each : ∀ i, i < len0 → ∃ d : PutD, W.cell? ⟨b, off + i * 5, none⟩ = some (.int .i64 d.kind) ∧ W.cell? ⟨b, off + i * 5 + 1, none⟩ = some (.int .i64 d.n) ∧ W.cell? ⟨b, off + i * 5 + 2, none⟩ = some (.int .i64 d.most) ∧ W.cell? ⟨b, off + i * 5 + 3, none⟩ = some (.bool d.t) ∧ W.cell? ⟨b, off + i * 5 + 4, none⟩ = some d.x ∧ Sl W.heap.size W d.x d.bs := by
          intro i hi
          obtain ⟨cs', hc', ht⟩ := hcell i (by omega)
          rw [cells49, Addr.add_lit] at hc'
          exact put_in hc' ht
        obtain ⟨D, hD⟩ := Deep.choose_lt each
        refine ⟨D, .inr ⟨b, off, rfl, ?_, hD⟩, hreach⟩
        have := cell_lt (hD 0 (by omega)).1
        exact this
  clear hA0 hval0
  refine (wireBack_walk0 a0 len0 cap0 D W w0 hn).mono fun e W' ⟨he, bel⟩ => ?_
  subst he
  exact ⟨_, rfl, _, _, _, [], _, [], hW', trodAll_mk1 (shut_bool Try.underlying4 _), (trodAll_cons_mk (Below.trod laidOut (by kernel_rfl) (of_decide_eq_true (by kernel_rfl)) k0 bel lt0) trodAll_mk0), rfl, bel.frame _, fun h => by cases h⟩

theorem wireBack_holds : Rows.WireBackSaid :=
  OpenClaim.holds_of_wide 7 Try.f7 rfl rfl rfl rfl rfl rfl rfl ⟨rfl, rfl, rfl, rfl, rfl⟩ rfl rfl rfl rfl rfl (by kernel_rfl) Try.func7 (by kernel_rfl)
    (of_decide_eq_true (by kernel_rfl)) (by unfold Func.isWrapper; first | (rw [if_pos (by decide +kernel)]; kernel_rfl) | (rw [if_neg (by decide +kernel)]; exact ⟨rfl, rfl⟩))
    (fun os started H enc _ => wireBack_lifted os started H enc)
#print axioms wireBack_holds
end Go.Proofs.Ytndgfkgfonfliaa
