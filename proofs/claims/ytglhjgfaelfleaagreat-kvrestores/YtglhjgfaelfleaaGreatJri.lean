/-
  What came in, as the walks read it: commands, texts, bytes, numbers. Bytes that came in, as the walks read them.
-/
import Derived.Test.YtglhjgfaelfleaaGreatRows
import Derived.Test.YtglhjgfaelfleaaGreatDw
import Derived.WalkKit
import Derived.ProofKit
import Derived.OpenShut
import Derived.ShutString
import Derived.ChangeOld
import Derived.Deep.SlicePairs
namespace Go.Proofs.YtglhjgfaelfleaaGreat
open Go.ChangeShapes Go.WideShapes Go.ChangeAt Go.RowKit
set_option linter.unusedVariables false

theorem own : ownKnob Tryz.prog.godebug = none := by kernel_rfl
theorem laidOut : laidOutB Tryz.prog = true := by kernel_rfl
def In64 (x : Int) : Prop := -9223372036854775808 ≤ x ∧ x ≤ 9223372036854775807
theorem cell_lt {w : World} {p : Addr} {v : Value} (h : w.cell? p = some v) : p.block < w.heap.size := World.block_lt_of_cell? w p h
theorem cellsOfI : Tryz.prog.cellsOf 3 = 1 := by kernel_rfl
theorem cellsOfStr : Tryz.prog.cellsOf 9 = 1 := by kernel_rfl
theorem list6 {α : Type} {cs : List α} (h : cs.length = 6) : ∃ v0 v1 v2 v3 v4 v5, cs = [v0, v1, v2, v3, v4, v5] := by
  match cs, h with
  | [v0, v1, v2, v3, v4, v5], _ => exact ⟨_, _, _, _, _, _, rfl⟩
theorem underC : ∃ f0 f1 f2 f3 f4 f5 : Field, Tryz.prog.underlying 44 = some (.struct #[f0, f1, f2, f3, f4, f5]) ∧ (f0.offset = 0 ∧ f1.offset = 1 ∧ f2.offset = 2 ∧ f3.offset = 3 ∧ f4.offset = 4 ∧ f5.offset = 5) ∧ f0.type = 3 ∧ f1.type = 3 ∧ f2.type = 3 ∧ f3.type = 9 ∧ f4.type = 9 ∧ f5.type = 9 := ⟨_, _, _, _, _, _, Tryz.underlying44, ⟨rfl, rfl, rfl, rfl, rfl, rfl⟩, rfl, rfl, rfl, rfl, rfl, rfl⟩
theorem cellsOfC : Tryz.prog.cellsOf 44 = 6 := by kernel_rfl

/-- One that came in. -/
theorem inCommand {H : Type} {enc : TypeId × Value → H} {W : World} {n : Nat} {cs : List Value} {x : DataW H × List MemPlace} (hlen : cs.length = 6) (h : DataW.trod enc Tryz.prog W 0 (fun _ => true) true n 44 cs = some x) :
    ∃ (o : Int) (c : Int) (s : Int) (k : List UInt8) (v : List UInt8) (d : List UInt8), cs = [.int .i64 o, .int .i64 c, .int .i64 s, .string ⟨k.toArray⟩, .string ⟨v.toArray⟩, .string ⟨d.toArray⟩] ∧ k.length ≤ maxLen ∧ v.length ≤ maxLen ∧ d.length ≤ maxLen := by
  obtain ⟨f0, f1, f2, f3, f4, f5, hu, ⟨o0, o1, o2, o3, o4, o5⟩, t0, t1, t2, t3, t4, t5⟩ := underC
  obtain ⟨xs, k, _, _, _, hxl, hf⟩ := DataW.trod_struct hu h
  obtain ⟨v0, v1, v2, v3, v4, v5, rfl⟩ := list6 hlen
  obtain ⟨y0, y1, y2, y3, y4, y5, rfl⟩ := list6 hxl
  have g0 := hf 0 f0 rfl
  rw [o0, t0, cellsOfI] at g0
  have g1 := hf 1 f1 rfl
  rw [o1, t1, cellsOfI] at g1
  have g2 := hf 2 f2 rfl
  rw [o2, t2, cellsOfI] at g2
  have g3 := hf 3 f3 rfl
  rw [o3, t3, cellsOfStr] at g3
  have g4 := hf 4 f4 rfl
  rw [o4, t4, cellsOfStr] at g4
  have g5 := hf 5 f5 rfl
  rw [o5, t5, cellsOfStr] at g5
  simp at g0 g1 g2 g3 g4 g5
  obtain ⟨z0, e0, -, -⟩ := DataW.trod_int Tryz.underlying3 g0
  simp at e0
  subst e0
  obtain ⟨z1, e1, -, -⟩ := DataW.trod_int Tryz.underlying3 g1
  simp at e1
  subst e1
  obtain ⟨z2, e2, -, -⟩ := DataW.trod_int Tryz.underlying3 g2
  simp at e2
  subst e2
  obtain ⟨z3, e3, -, l3⟩ := DataW.trod_string Tryz.underlying9 g3
  simp at e3
  subst e3
  obtain ⟨z4, e4, -, l4⟩ := DataW.trod_string Tryz.underlying9 g4
  simp at e4
  subst e4
  obtain ⟨z5, e5, -, l5⟩ := DataW.trod_string Tryz.underlying9 g5
  simp at e5
  subst e5
  exact ⟨z0, z1, z2, z3.data.toList, z4.data.toList, z5.data.toList, rfl, by rw [Array.length_toList]; exact l3, by rw [Array.length_toList]; exact l4, by rw [Array.length_toList]; exact l5⟩


set_option maxRecDepth 100000 in
/-- Commands that came in. -/
theorem inCmds {H : Type} {enc : TypeId × Value → H} {W : World} {n : Nat} {v : Value} {x : DataW H × List MemPlace} (h : DataW.trod enc Tryz.prog W 0 (fun _ => true) true n 23 [v] = some x) :
    ∃ (ea : Option Addr) (ec : Nat) (es : List Cm), v = .slice ea es.length ec ∧ Cs W.heap.size W ea es := by
  rcases Deep.open_slice Tryz.underlying23 h with ⟨hcs, _⟩ | ⟨x, l, c, m, n, E, Pl, hcs, _, hl, hm, hmm, hx, hcell⟩
  · simp at hcs
    exact ⟨none, 0, [], hcs, by simp, by simp, .inl rfl⟩
  · simp at hcs
    have hlm : l ≤ maxLen := by omega
    by_cases hz : l = 0
    · subst hz; exact ⟨some x, c, [], hcs, by simp, by simp, .inl rfl⟩
    · have hml : l ≤ m := by rw [hmm]; split <;> omega
      obtain ⟨b, off, spot⟩ := x
      have hspot : spot = none := by
        obtain ⟨cs', hc', -⟩ := hcell 0 (by omega)
        rw [cellsOfC] at hc'
        obtain ⟨_, hlen, hc⟩ := World.cells?_some hc'
        have h00 := hc 0 (by omega)
        rw [List.getElem?_eq_getElem (by omega)] at h00
        simpa [Addr.add] using World.cell?_spot h00
      subst hspot
      have each : ∀ i, i < l → ∃ e : Cm, CmAt W b (off + i * 6) e ∧ CmIn e := by
        intro i hi
        obtain ⟨cs', hc', ht⟩ := hcell i (by omega)
        rw [cellsOfC, Addr.add_lit] at hc'
        obtain ⟨_, hlen, hc⟩ := World.cells?_some hc'
        obtain ⟨o, q, s, k, v, d, rfl, h1, h2, h3⟩ := inCommand hlen ht
        have c0 := hc 0 (by omega)
        have c1 := hc 1 (by omega)
        have c2 := hc 2 (by omega)
        have c3 := hc 3 (by omega)
        have c4 := hc 4 (by omega)
        have c5 := hc 5 (by omega)
        rw [Addr.add_lit] at c0 c1 c2 c3 c4 c5
        simp at c0 c1 c2 c3 c4 c5
        exact ⟨⟨o, q, s, k, v, d⟩, ⟨c0, c1, c2, c3, c4, c5⟩, h1, h2, h3⟩
      have inh : Inhabited Cm := ⟨⟨0, 0, 0, [], [], []⟩⟩
      obtain ⟨f, hf⟩ : ∃ f : Nat → Cm, ∀ i, i < l → CmAt W b (off + i * 6) (f i) ∧ CmIn (f i) := by
        refine ⟨fun i => if hi : i < l then Classical.choose (each i hi) else default, fun i hi => ?_⟩
        simp only [dif_pos hi]
        exact Classical.choose_spec (each i hi)
      have hlen : ((List.range l).map f).length = l := by simp
      refine ⟨some ⟨b, off, none⟩, c, (List.range l).map f, by rw [hlen]; exact hcs, by rw [hlen]; exact hlm, ?_, .inr ⟨b, off, rfl, ?_, fun i hi => ?_⟩⟩
      · intro e he
        obtain ⟨i, hi, rfl⟩ := List.mem_map.1 he
        exact (hf i (by simpa using hi)).2
      · have := cell_lt (hf 0 (by omega)).1.1
        exact this
      · rw [hlen] at hi
        simpa using (hf i hi).1
end Go.Proofs.YtglhjgfaelfleaaGreat
namespace Go.Proofs.YtglhjgfaelfleaaGreat
open Go.ChangeShapes Go.WideShapes Go.ChangeAt Go.RowKit

/-- A slice of integers that came in: nil, or a row of cells. -/
def IsRow (k : IntKind) (w : World) (a : Option Addr) (len cap : Nat) (zs : List Int) : Prop :=
  (a = none ∧ len = 0 ∧ cap = 0 ∧ zs = []) ∨
  ∃ x, a = some x ∧ len ≤ cap ∧ cap ≤ maxLen ∧ zs.length = cap ∧ (∀ i, i < zs.length → w.cell? (x.add i) = some (.int k (zs.getD i 0))) ∧ ∀ n ∈ zs, (Lit.int k n).wf = true

theorem isRow_sl {w : World} {a : Option Addr} {len cap : Nat} {zs : List Int} (h : IsRow .u8 w a len cap zs) : ∃ l : List UInt8, l.length = len ∧ Sl w.heap.size w (.slice a len cap) l := by
  rcases h with ⟨rfl, rfl, rfl, rfl⟩ | ⟨x, rfl, hl, hm, hz, hc, hwf⟩
  · exact ⟨[], rfl, Sl.nil _ _⟩
  · refine ⟨(zs.take len).map (fun z => UInt8.ofNat z.toNat), by simp; omega, ?_⟩
    have hlen : ((zs.take len).map (fun z => UInt8.ofNat z.toNat)).length = len := by simp; omega
    refine ⟨some x, cap, by rw [hlen], by omega, hm, ?_⟩
    by_cases h0 : len = 0
    · subst h0; exact .inl (by simp)
    · obtain ⟨b, off, spot⟩ := x
      have hc0 := hc 0 (by omega)
      have hspot : spot = none := by simpa [Addr.add] using World.cell?_spot hc0
      subst hspot
      refine .inr ⟨b, off, rfl, ?_, fun i hi => ?_⟩
      · have := cell_lt hc0; rw [Addr.add_lit] at this; exact this
      · rw [hlen] at hi
        have h1 := hc i (by omega)
        rw [Addr.add_lit] at h1
        rw [h1]
        have hmem : zs.getD i 0 ∈ zs := by
          rw [List.getD_eq_getElem?_getD, List.getElem?_eq_getElem (by omega)]; exact List.getElem_mem _
        have hb := bounds_u8 (hwf _ hmem)
        simp only [List.getElem?_map, List.getElem?_take, hi, if_true, List.getD_eq_getElem?_getD] at hb ⊢
        rw [List.getElem?_eq_getElem (by omega)] at hb ⊢
        simp only [Option.getD_some, Option.map_some, encB] at hb ⊢
        congr 2
        simp
        omega
end Go.Proofs.YtglhjgfaelfleaaGreat
