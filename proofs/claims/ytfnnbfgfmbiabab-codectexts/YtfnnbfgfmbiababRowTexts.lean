/-
  For every list of commands and every limit the law CodecTexts returns true: a list of commands is read back as it is, and hangs on the limit only by being refused; no condition.
-/
import Derived.Test.YtfnnbfgfmbiababTxW
import Derived.Test.YtfnnbfgfmbiababRowIn
import Derived.Deep.SlicePairs
namespace Go.Proofs.Ytfnnbfgfmbiabab
open Go.ChangeShapes Go.WideShapes Go.ChangeAt Go.RowKit Go.Shelf
set_option linter.unusedVariables false

theorem cellsOf3 : Try.prog.cellsOf 3 = 1 := by kernel_rfl
theorem cellsOf9 : Try.prog.cellsOf 9 = 1 := by kernel_rfl
theorem list6 {α : Type} {cs : List α} (h : cs.length = 6) : ∃ v0 v1 v2 v3 v4 v5, cs = [v0, v1, v2, v3, v4, v5] := by
  match cs, h with
  | [v0, v1, v2, v3, v4, v5], _ => exact ⟨_, _, _, _, _, _, rfl⟩
theorem under45 : ∃ f0 f1 f2 f3 f4 f5 : Field, Try.prog.underlying 45 = some (.struct #[f0, f1, f2, f3, f4, f5]) ∧ (f0.offset = 0 ∧ f1.offset = 1 ∧ f2.offset = 2 ∧ f3.offset = 3 ∧ f4.offset = 4 ∧ f5.offset = 5) ∧ f0.type = 3 ∧ f1.type = 3 ∧ f2.type = 3 ∧ f3.type = 9 ∧ f4.type = 9 ∧ f5.type = 9 := ⟨_, _, _, _, _, _, Try.underlying45, ⟨rfl, rfl, rfl, rfl, rfl, rfl⟩, rfl, rfl, rfl, rfl, rfl, rfl⟩
theorem cellsOf45 : Try.prog.cellsOf 45 = 6 := by kernel_rfl

/-- One that came in. -/
theorem inCommand {H : Type} {enc : TypeId × Value → H} {W : World} {n : Nat} {cs : List Value} {x : DataW H × List MemPlace} (hlen : cs.length = 6) (h : DataW.trod enc Try.prog W 0 (fun _ => true) true n 45 cs = some x) :
    ∃ (o : Int) (c : Int) (s : Int) (k : List UInt8) (v : List UInt8) (d : List UInt8), cs = [.int .i64 o, .int .i64 c, .int .i64 s, .string ⟨k.toArray⟩, .string ⟨v.toArray⟩, .string ⟨d.toArray⟩] ∧ k.length ≤ maxLen ∧ v.length ≤ maxLen ∧ d.length ≤ maxLen := by
  obtain ⟨f0, f1, f2, f3, f4, f5, hu, ⟨o0, o1, o2, o3, o4, o5⟩, t0, t1, t2, t3, t4, t5⟩ := under45
  obtain ⟨xs, k, _, _, _, hxl, hf⟩ := DataW.trod_struct hu h
  obtain ⟨v0, v1, v2, v3, v4, v5, rfl⟩ := list6 hlen
  obtain ⟨y0, y1, y2, y3, y4, y5, rfl⟩ := list6 hxl
  have g0 := hf 0 f0 rfl
  rw [o0, t0, cellsOf3] at g0
  have g1 := hf 1 f1 rfl
  rw [o1, t1, cellsOf3] at g1
  have g2 := hf 2 f2 rfl
  rw [o2, t2, cellsOf3] at g2
  have g3 := hf 3 f3 rfl
  rw [o3, t3, cellsOf9] at g3
  have g4 := hf 4 f4 rfl
  rw [o4, t4, cellsOf9] at g4
  have g5 := hf 5 f5 rfl
  rw [o5, t5, cellsOf9] at g5
  simp at g0 g1 g2 g3 g4 g5
  obtain ⟨z0, e0, -, -⟩ := DataW.trod_int Try.underlying3 g0
  simp at e0
  subst e0
  obtain ⟨z1, e1, -, -⟩ := DataW.trod_int Try.underlying3 g1
  simp at e1
  subst e1
  obtain ⟨z2, e2, -, -⟩ := DataW.trod_int Try.underlying3 g2
  simp at e2
  subst e2
  obtain ⟨z3, e3, -, l3⟩ := DataW.trod_string Try.underlying9 g3
  simp at e3
  subst e3
  obtain ⟨z4, e4, -, l4⟩ := DataW.trod_string Try.underlying9 g4
  simp at e4
  subst e4
  obtain ⟨z5, e5, -, l5⟩ := DataW.trod_string Try.underlying9 g5
  simp at e5
  subst e5
  exact ⟨z0, z1, z2, z3.data.toList, z4.data.toList, z5.data.toList, rfl, by rw [Array.length_toList]; exact l3, by rw [Array.length_toList]; exact l4, by rw [Array.length_toList]; exact l5⟩

set_option maxRecDepth 100000 in
/-- Commands that came in. -/
theorem inCommands {H : Type} {enc : TypeId × Value → H} {W : World} {n : Nat} {v : Value} {x : DataW H × List MemPlace} (h : DataW.trod enc Try.prog W 0 (fun _ => true) true n 69 [v] = some x) :
    ∃ (ea : Option Addr) (ec : Nat) (es : List Cm), v = .slice ea es.length ec ∧ CmsAt W.heap.size W ea es ∧ es.length ≤ 9223372036854775807 ∧ ∀ e ∈ es, e.k.length ≤ 9223372036854775807 ∧ e.v.length ≤ 9223372036854775807 ∧ e.d.length ≤ 9223372036854775807 := by
  rcases Deep.open_slice Try.underlying69 h with ⟨hcs, _⟩ | ⟨x, l, c, m, n, E, Pl, hcs, _, hl, hm, hmm, hx, hcell⟩
  · simp at hcs
    exact ⟨none, 0, [], hcs, .inl rfl, Nat.zero_le _, by simp⟩
  · simp at hcs
    have hlm : l ≤ 9223372036854775807 := by have := hm; unfold maxLen at this; omega
    by_cases hz : l = 0
    · subst hz; exact ⟨some x, c, [], hcs, .inl rfl, Nat.zero_le _, by simp⟩
    · have hml : l ≤ m := by rw [hmm]; split <;> omega
      obtain ⟨b, off, spot⟩ := x
      have hspot : spot = none := by
        obtain ⟨cs', hc', -⟩ := hcell 0 (by omega)
        rw [cellsOf45] at hc'
        obtain ⟨_, hlen, hc⟩ := World.cells?_some hc'
        have h00 := hc 0 (by omega)
        rw [List.getElem?_eq_getElem (by omega)] at h00
        simpa [Addr.add] using World.cell?_spot h00
      subst hspot
      have each : ∀ i, i < l → ∃ e : Cm, CmAt W b (off + i * 6) e ∧ e.k.length ≤ 9223372036854775807 ∧ e.v.length ≤ 9223372036854775807 ∧ e.d.length ≤ 9223372036854775807 := by
        intro i hi
        obtain ⟨cs', hc', ht⟩ := hcell i (by omega)
        rw [cellsOf45, Addr.add_lit] at hc'
        obtain ⟨_, hlen, hc⟩ := World.cells?_some hc'
        obtain ⟨o, q, s, k, v, d, rfl, h1, h2, h3⟩ := inCommand hlen ht
        have c0 := hc 0 (by omega)
        have c1 := hc 1 (by omega)
        have c2 := hc 2 (by omega)
        have c3 := hc 3 (by omega)
        have c4 := hc 4 (by omega)
        have c5 := hc 5 (by omega)
        rw [Addr.add_lit] at c0 c1 c2 c3 c4 c5
        simp at c0 c1 c2 c3 c4 c5
        unfold maxLen at h1 h2 h3
        exact ⟨⟨o, q, s, k, v, d⟩, ⟨c0, c1, c2, c3, c4, c5⟩, by show k.length ≤ _; omega, by show v.length ≤ _; omega, by show d.length ≤ _; omega⟩
      have inh : Inhabited Cm := ⟨nilCm⟩
      obtain ⟨D, hD⟩ := Deep.choose_lt each
      have hlt : b < W.heap.size := cell_lt (hD 0 (by omega)).1.1
      refine ⟨some ⟨b, off, none⟩, c, (List.range l).map D, by simpa using hcs, .inr ⟨b, off, rfl, hlt, fun i hi => ?_⟩, by simpa using hlm, fun e he => ?_⟩
      · simp at hi
        rw [show ((List.range l).map D).getD i nilCm = D i by simp [hi]]
        exact (hD i hi).1
      · obtain ⟨i, hi, rfl⟩ := List.mem_map.1 he
        exact (hD i (by simpa using hi)).2

set_option maxRecDepth 100000 in
theorem codecTexts_lifted (os : Os) (started : os.Started) (H : Type) (enc : TypeId × Value → H) :
    ReturnsInHanded {} Try.checked os 7 .any (Rows.codecTextsSpec.pre6 enc Try.prog Try.f7 Rows.codecTextsRow.domain false) (Rows.codecTextsSpec.post enc Try.prog Try.f7 false true false false) := by
  refine returnsInHanded_of_change (C := Try.checked) own started (by kernel_rfl) Try.func7
    (ChangeSpec.witness6 (enc := enc) (C := Try.checked) false ⟨#[], #[.slice none 0 0, .int .i64 0], []⟩ 8 (by kernel_rfl) (by kernel_rfl) (by kernel_rfl) (by kernel_rfl)) ?_
  intro W base args ds gs before hval0 hW hcnd _
  have hval : ∀ (j : Nat) t v, Try.f7.params[j]? = some t → args[j]? = some v → Value.okWide Try.prog W .any base t v := hval0
  have hW' := hW
  obtain ⟨p, q, hA0, hV, rfl, hfz, hnd⟩ := hW
  have hA : DataW.TrodAll enc Try.prog W 0 (fun _ => true) true Try.f7.params.toList args.toList ds p := hA0
  rw [Try.params7] at hA hval
  obtain ⟨v0, vs0, d0, ds0, p0, q0, hargs, rfl, rfl, h0, r0⟩ := trodAll_cons hA
  obtain ⟨v1, vs1, d1, ds1, p1, q1, rfl, rfl, rfl, h1, r1⟩ := trodAll_cons r0
  obtain ⟨rfl, rfl, rfl⟩ := trodAll_nil r1
  obtain rfl : args = #[v0, v1] := by cases args; simp_all
  obtain ⟨rfl, rfl⟩ := trodVars_none hV
  have k0 := h0
  have lt0 : ∀ x ∈ p0, x.block < W.heap.size := by obtain ⟨m, hm⟩ := k0; exact DataW.trod_lt m _ _ _ hm
  obtain ⟨a0, l0, c0, rfl⟩ := okWide_slice Try.underlying69 (hval 0 69 v0 rfl rfl)
  obtain ⟨fuel0, hf0⟩ := h0
  obtain ⟨ea, ec, es, he, hx, hex, hez⟩ := inCommands (by simpa [Value.cells] using hf0)
  cases he
  obtain ⟨limit, rfl, rfl, rfl, w1⟩ := open_int Try.underlying3 (hval 1 3 v1 rfl rfl) h1
  clear hA0 hval0
  refine (codecTexts_walk _ _ es limit W hx hex hez (bounds_i64 w1)).mono fun e W' ⟨he, bel⟩ => ?_
  subst he
  exact ⟨_, rfl, _, _, _, [], _, [], hW', trodAll_mk1 (shut_bool Try.underlying4 _), (trodAll_cons_mk (Below.trod laidOut (by kernel_rfl) (of_decide_eq_true (by kernel_rfl)) k0 bel lt0) (trodAll_cons_mk (shut_int Try.underlying3 w1) trodAll_mk0)), rfl, bel.frame _, fun h => by cases h⟩

theorem codecTexts_holds : Rows.CodecTextsSaid :=
  OpenClaim.holds_of_wide 7 Try.f7 rfl rfl rfl rfl rfl rfl rfl ⟨rfl, rfl, rfl, rfl, rfl⟩ rfl rfl rfl rfl rfl (by kernel_rfl) Try.func7 (by kernel_rfl)
    (of_decide_eq_true (by kernel_rfl)) (by unfold Func.isWrapper; first | (rw [if_pos (by decide +kernel)]; kernel_rfl) | (rw [if_neg (by decide +kernel)]; exact ⟨rfl, rfl⟩))
    (fun os started H enc _ => codecTexts_lifted os started H enc)
#print axioms codecTexts_holds
end Go.Proofs.Ytfnnbfgfmbiabab
