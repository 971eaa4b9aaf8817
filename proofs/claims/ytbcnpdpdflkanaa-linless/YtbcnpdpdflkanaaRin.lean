/-
  What came in, as the walks read it: operations, texts, numbers.
-/
import Derived.Test.YtbcnpdpdflkanaaRows
import Derived.Test.YtbcnpdpdflkanaaFw
import Derived.WalkKit
import Derived.ProofKit
import Derived.OpenShut
import Derived.ShutString
import Derived.ChangeOld
import Derived.Deep.SlicePairs
namespace Go.Proofs.Ytbcnpdpdflkanaa
open Go.ChangeShapes Go.WideShapes Go.ChangeAt Go.RowKit
set_option linter.unusedVariables false

theorem own : ownKnob Try.prog.godebug = none := by kernel_rfl
def In64 (x : Int) : Prop := -9223372036854775808 ≤ x ∧ x ≤ 9223372036854775807
theorem cell_lt {w : World} {p : Addr} {v : Value} (h : w.cell? p = some v) : p.block < w.heap.size := World.block_lt_of_cell? w p h
theorem cellsOfI : Try.prog.cellsOf 3 = 1 := by kernel_rfl
theorem cellsOfStr : Try.prog.cellsOf 9 = 1 := by kernel_rfl
theorem cellsOfR : Try.prog.cellsOf 33 = 2 := by kernel_rfl
theorem cellsOfO : Try.prog.cellsOf 35 = 10 := by kernel_rfl
theorem list10 {α : Type} {cs : List α} (h : cs.length = 10) : ∃ v0 v1 v2 v3 v4 v5 v6 v7 v8 v9, cs = [v0, v1, v2, v3, v4, v5, v6, v7, v8, v9] := by
  match cs, h with
  | [v0, v1, v2, v3, v4, v5, v6, v7, v8, v9], _ => exact ⟨_, _, _, _, _, _, _, _, _, _, rfl⟩
theorem list9 {α : Type} {cs : List α} (h : cs.length = 9) : ∃ v0 v1 v2 v3 v4 v5 v6 v7 v8, cs = [v0, v1, v2, v3, v4, v5, v6, v7, v8] := by
  match cs, h with
  | [v0, v1, v2, v3, v4, v5, v6, v7, v8], _ => exact ⟨_, _, _, _, _, _, _, _, _, rfl⟩
theorem list2 {α : Type} {cs : List α} (h : cs.length = 2) : ∃ v0 v1, cs = [v0, v1] := by
  match cs, h with
  | [v0, v1], _ => exact ⟨_, _, rfl⟩
theorem underO : ∃ f0 f1 f2 f3 f4 f5 f6 f7 f8 : Field, Try.prog.underlying 35 = some (.struct #[f0, f1, f2, f3, f4, f5, f6, f7, f8]) ∧ (f0.offset = 0 ∧ f1.offset = 1 ∧ f2.offset = 2 ∧ f3.offset = 3 ∧ f4.offset = 4 ∧ f5.offset = 5 ∧ f6.offset = 6 ∧ f7.offset = 7 ∧ f8.offset = 8) ∧ f0.type = 3 ∧ f1.type = 3 ∧ f2.type = 3 ∧ f3.type = 9 ∧ f4.type = 9 ∧ f5.type = 9 ∧ f6.type = 3 ∧ f7.type = 3 ∧ f8.type = 33 := ⟨_, _, _, _, _, _, _, _, _, Try.underlying35, ⟨rfl, rfl, rfl, rfl, rfl, rfl, rfl, rfl, rfl⟩, rfl, rfl, rfl, rfl, rfl, rfl, rfl, rfl, rfl⟩
theorem underR : ∃ f0 f1 : Field, Try.prog.underlying 33 = some (.struct #[f0, f1]) ∧ (f0.offset = 0 ∧ f1.offset = 1) ∧ f0.type = 3 ∧ f1.type = 9 := ⟨_, _, Try.underlying33, ⟨rfl, rfl⟩, rfl, rfl⟩

/-- One that came in. -/
theorem inOp {H : Type} {enc : TypeId × Value → H} {W : World} {n : Nat} {cs : List Value} {x : DataW H × List MemPlace} (hlen : cs.length = 10) (h : DataW.trod enc Try.prog W 0 (fun _ => true) true n 35 cs = some x) :
    ∃ o : Lo, cs = o.cells.toList ∧ LoOk o ∧ In64 o.call ∧ In64 o.back ∧ In64 o.kind := by
  obtain ⟨f0, f1, f2, f3, f4, f5, f6, f7, f8, hu, ⟨o0, o1, o2, o3, o4, o5, o6, o7, o8⟩, t0, t1, t2, t3, t4, t5, t6, t7, t8⟩ := underO
  obtain ⟨xs, k, _, _, _, hxl, hf⟩ := DataW.trod_struct hu h
  obtain ⟨v0, v1, v2, v3, v4, v5, v6, v7, v8, v9, rfl⟩ := list10 hlen
  obtain ⟨y0, y1, y2, y3, y4, y5, y6, y7, y8, rfl⟩ := list9 hxl
  have g0 := hf 0 f0 rfl
  rw [o0, t0, cellsOfI] at g0
  have g1 := hf 1 f1 rfl
  rw [o1, t1, cellsOfI] at g1
  have g2 := hf 2 f2 rfl
  rw [o2, t2, cellsOfI] at g2
  have g3 := hf 3 f3 rfl
  rw [o3, t3, cellsOfStr] at g3
  have g4 := hf 4 f4 rfl
  rw [o4, t4, cellsOfStr] at g4
  have g5 := hf 5 f5 rfl
  rw [o5, t5, cellsOfStr] at g5
  have g6 := hf 6 f6 rfl
  rw [o6, t6, cellsOfI] at g6
  have g7 := hf 7 f7 rfl
  rw [o7, t7, cellsOfI] at g7
  have g8 := hf 8 f8 rfl
  rw [o8, t8, cellsOfR] at g8
  simp at g0 g1 g2 g3 g4 g5 g6 g7 g8
  obtain ⟨z0, e0, -, l0⟩ := DataW.trod_int Try.underlying3 g0
  simp at e0
  subst e0
  obtain ⟨z1, e1, -, l1⟩ := DataW.trod_int Try.underlying3 g1
  simp at e1
  subst e1
  obtain ⟨z2, e2, -, l2⟩ := DataW.trod_int Try.underlying3 g2
  simp at e2
  subst e2
  obtain ⟨z3, e3, -, l3⟩ := DataW.trod_string Try.underlying9 g3
  simp at e3
  subst e3
  obtain ⟨z4, e4, -, l4⟩ := DataW.trod_string Try.underlying9 g4
  simp at e4
  subst e4
  obtain ⟨z5, e5, -, l5⟩ := DataW.trod_string Try.underlying9 g5
  simp at e5
  subst e5
  obtain ⟨z6, e6, -, l6⟩ := DataW.trod_int Try.underlying3 g6
  simp at e6
  subst e6
  obtain ⟨z7, e7, -, l7⟩ := DataW.trod_int Try.underlying3 g7
  simp at e7
  subst e7
  obtain ⟨q0, q1, hur, ⟨p0, p1⟩, s0, s1⟩ := underR
  obtain ⟨xs', k', _, _, _, hxl', hf'⟩ := DataW.trod_struct hur g8
  obtain ⟨y0', y1', rfl⟩ := list2 hxl'
  have g8' := hf' 0 q0 rfl
  rw [p0, s0, cellsOfI] at g8'
  have g9' := hf' 1 q1 rfl
  rw [p1, s1, cellsOfStr] at g9'
  simp at g8' g9'
  obtain ⟨z8, e8, -, l8⟩ := DataW.trod_int Try.underlying3 g8'
  simp at e8
  subst e8
  obtain ⟨z9, e9, -, l9⟩ := DataW.trod_string Try.underlying9 g9'
  simp at e9
  subst e9
  have b6 := bounds_i64 l6
  have b7 := bounds_i64 l7
  have b2 := bounds_i64 l2
  have B6 : In64 z6 := ⟨by omega, by omega⟩
  have B7 : In64 z7 := ⟨by omega, by omega⟩
  have B2 : In64 z2 := ⟨by omega, by omega⟩
  exact ⟨⟨z0, z1, z2, z3.data.toList, z4.data.toList, z5.data.toList, z6, z7, ⟨z8, z9.data.toList⟩⟩, rfl, ⟨by rw [Array.length_toList]; exact l3, by rw [Array.length_toList]; exact l4, by rw [Array.length_toList]; exact l5, by rw [Array.length_toList]; exact l9⟩, B6, B7, B2⟩

/-- What may be of an operation that came in. -/
structure InO (o : Lo) : Prop where
  ok : LoOk o
  call : In64 o.call
  back : In64 o.back
  kind : In64 o.kind

set_option maxRecDepth 100000 in
/-- Operations that came in. -/
theorem inOps {H : Type} {enc : TypeId × Value → H} {W : World} {n : Nat} {v : Value} {x : DataW H × List MemPlace} (h : DataW.trod enc Try.prog W 0 (fun _ => true) true n 22 [v] = some x) :
    ∃ (ea : Option Addr) (ec : Nat) (es : List Lo), v = .slice ea es.length ec ∧ HAt W.heap.size W ea es ∧ (∀ o ∈ es, InO o) ∧ es.length ≤ maxLen ∧ es.length ≤ ec ∧ ec ≤ maxLen := by
  rcases Deep.open_slice Try.underlying22 h with ⟨hcs, _⟩ | ⟨x, l, c, m, n, E, Pl, hcs, _, hl, hm, hmm, hx, hcell⟩
  · simp at hcs
    exact ⟨none, 0, [], hcs, .inl rfl, by simp, by simp, by simp, by simp⟩
  · simp at hcs
    have hlm : l ≤ maxLen := by omega
    by_cases hz : l = 0
    · subst hz; exact ⟨some x, c, [], hcs, .inl rfl, by simp, by simp, by simp, by omega⟩
    · have hml : l ≤ m := by rw [hmm]; split <;> omega
      obtain ⟨b, off, spot⟩ := x
      have hspot : spot = none := by
        obtain ⟨cs', hc', -⟩ := hcell 0 (by omega)
        rw [cellsOfO] at hc'
        obtain ⟨_, hlen, hc⟩ := World.cells?_some hc'
        have h00 := hc 0 (by omega)
        rw [List.getElem?_eq_getElem (by omega)] at h00
        simpa [Addr.add] using World.cell?_spot h00
      subst hspot
      have each : ∀ i, i < l → ∃ e : Lo, OpAt W b (off + i * 10) e ∧ InO e := by
        intro i hi
        obtain ⟨cs', hc', ht⟩ := hcell i (by omega)
        rw [cellsOfO, Addr.add_lit] at hc'
        obtain ⟨_, hlen, hc⟩ := World.cells?_some hc'
        obtain ⟨o, rfl, h1, h2, h3, h4⟩ := inOp hlen ht
        have c0 := hc 0 (by omega)
        have c1 := hc 1 (by omega)
        have c2 := hc 2 (by omega)
        have c3 := hc 3 (by omega)
        have c4 := hc 4 (by omega)
        have c5 := hc 5 (by omega)
        have c6 := hc 6 (by omega)
        have c7 := hc 7 (by omega)
        have c8 := hc 8 (by omega)
        have c9 := hc 9 (by omega)
        rw [Addr.add_lit] at c0 c1 c2 c3 c4 c5 c6 c7 c8 c9
        exact ⟨o, ⟨c0, c1, c2, c3, c4, c5, c6, c7, c8, c9⟩, ⟨h1, h2, h3, h4⟩⟩
      have inh : Inhabited Lo := ⟨lo0⟩
      obtain ⟨f, hf⟩ : ∃ f : Nat → Lo, ∀ i, i < l → OpAt W b (off + i * 10) (f i) ∧ InO (f i) := by
        refine ⟨fun i => if hi : i < l then Classical.choose (each i hi) else default, fun i hi => ?_⟩
        simp only [dif_pos hi]
        exact Classical.choose_spec (each i hi)
      have hlen : ((List.range l).map f).length = l := by simp
      refine ⟨some ⟨b, off, none⟩, c, (List.range l).map f, by rw [hlen]; exact hcs, .inr ⟨b, off, rfl, ?_, fun i hi => ?_⟩, ?_, by rw [hlen]; exact hlm, by rw [hlen]; omega, by omega⟩
      · have := cell_lt (hf 0 (by omega)).1.1
        exact this
      · rw [hlen] at hi
        have ho : oat ((List.range l).map f) i = f i := by unfold oat; rw [List.getElem?_map, List.getElem?_range hi]; rfl
        rw [ho]
        exact (hf i hi).1
      · intro e he
        obtain ⟨i, hi, rfl⟩ := List.mem_map.1 he
        exact (hf i (by simpa using hi)).2
end Go.Proofs.Ytbcnpdpdflkanaa
