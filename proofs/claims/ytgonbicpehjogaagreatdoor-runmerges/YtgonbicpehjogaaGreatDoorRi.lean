/-
  Lists of acts that came in, as the row reads them.
-/
import Derived.Test.YtgonbicpehjogaaGreatDoorMb
import Derived.Test.YtgonbicpehjogaaGreatDoorRows
import Derived.WalkKit
import Derived.ProofKit
import Derived.OpenShut
import Derived.ShutString
import Derived.ChangeOld
import Derived.Deep.SlicePairs
import Derived.SizedLaws
namespace Go.Proofs.YtgonbicpehjogaaGreatDoor
open Go.ChangeShapes Go.WideShapes Go.ChangeAt Go.RowKit
set_option linter.unusedVariables false

/-- A slice of integers that came in: nil, or a row of cells. -/
def IsRow (k : IntKind) (w : World) (a : Option Addr) (len cap : Nat) (zs : List Int) : Prop :=
  (a = none ∧ len = 0 ∧ cap = 0 ∧ zs = []) ∨
  ∃ x, a = some x ∧ len ≤ cap ∧ cap ≤ maxLen ∧ zs.length = cap ∧ (∀ i, i < zs.length → w.cell? (x.add i) = some (.int k (zs.getD i 0))) ∧ ∀ n ∈ zs, (Lit.int k n).wf = true

theorem cell_lt {w : World} {p : Addr} {v : Value} (h : w.cell? p = some v) : p.block < w.heap.size := World.block_lt_of_cell? w p h

theorem isRow_sl {w : World} {a : Option Addr} {len cap : Nat} {zs : List Int} (h : IsRow .u8 w a len cap zs) : ∃ l : List UInt8, l.length = len ∧ Sl w.heap.size w (.slice a len cap) l := by
  rcases h with ⟨rfl, rfl, rfl, rfl⟩ | ⟨x, rfl, hl, hm, hz, hc, hwf⟩
  · exact ⟨[], rfl, Sl.nil _ _⟩
  · refine ⟨(zs.take len).map (fun z => UInt8.ofNat z.toNat), by simp; omega, ?_⟩
    have hlen : ((zs.take len).map (fun z => UInt8.ofNat z.toNat)).length = len := by simp; omega
    refine ⟨some x, cap, by rw [hlen], by omega, hm, ?_⟩
    by_cases h0 : len = 0
    · subst h0; exact .inl (by simp)
    · obtain ⟨b, off, spot⟩ := x
      have hc0 := hc 0 (by omega)
      have hspot : spot = none := by simpa [Addr.add] using World.cell?_spot hc0
      subst hspot
      refine .inr ⟨b, off, rfl, ?_, fun i hi => ?_⟩
      · have := cell_lt hc0; rw [Addr.add_lit] at this; exact this
      · rw [hlen] at hi
        have h1 := hc i (by omega)
        rw [Addr.add_lit] at h1
        rw [h1]
        have hmem : zs.getD i 0 ∈ zs := by
          rw [List.getD_eq_getElem?_getD, List.getElem?_eq_getElem (by omega)]; exact List.getElem_mem _
        have hb := bounds_u8 (hwf _ hmem)
        simp only [List.getElem?_map, List.getElem?_take, hi, if_true, List.getD_eq_getElem?_getD] at hb ⊢
        rw [List.getElem?_eq_getElem (by omega)] at hb ⊢
        simp only [Option.getD_some, Option.map_some, encB] at hb ⊢
        congr 2
        simp
        omega

theorem cellsOfI : Tryz.prog.cellsOf 3 = 1 := by kernel_rfl
theorem cellsOfB : Tryz.prog.cellsOf 25 = 1 := by kernel_rfl
theorem cellsOfS : Tryz.prog.cellsOf 9 = 1 := by kernel_rfl
theorem cellsOfL : Tryz.prog.cellsOf 24 = 1 := by kernel_rfl
theorem cellsOfA : Tryz.prog.cellsOf 31 = 10 := by kernel_rfl
theorem cellsOfCall : Tryz.prog.cellsOf 29 = 7 := by kernel_rfl
theorem cellsOfCmd : Tryz.prog.cellsOf 27 = 6 := by kernel_rfl
theorem list10 {α : Type} {cs : List α} (h : cs.length = 10) : ∃ v0 v1 v2 v3 v4 v5 v6 v7 v8 v9, cs = [v0, v1, v2, v3, v4, v5, v6, v7, v8, v9] := by
  match cs, h with
  | [v0, v1, v2, v3, v4, v5, v6, v7, v8, v9], _ => exact ⟨_, _, _, _, _, _, _, _, _, _, rfl⟩
theorem list4 {α : Type} {cs : List α} (h : cs.length = 4) : ∃ v0 v1 v2 v3, cs = [v0, v1, v2, v3] := by
  match cs, h with
  | [v0, v1, v2, v3], _ => exact ⟨_, _, _, _, rfl⟩
theorem list2 {α : Type} {cs : List α} (h : cs.length = 2) : ∃ v0 v1, cs = [v0, v1] := by
  match cs, h with
  | [v0, v1], _ => exact ⟨_, _, rfl⟩
theorem list6 {α : Type} {cs : List α} (h : cs.length = 6) : ∃ v0 v1 v2 v3 v4 v5, cs = [v0, v1, v2, v3, v4, v5] := by
  match cs, h with
  | [v0, v1, v2, v3, v4, v5], _ => exact ⟨_, _, _, _, _, _, rfl⟩
theorem underA : ∃ f0 f1 f2 f3 : Field, Tryz.prog.underlying 31 = some (.struct #[f0, f1, f2, f3]) ∧ (f0.offset = 0 ∧ f1.offset = 1 ∧ f2.offset = 2 ∧ f3.offset = 3) ∧ f0.type = 3 ∧ f1.type = 3 ∧ f2.type = 25 ∧ f3.type = 29 := ⟨_, _, _, _, Tryz.underlying31, ⟨rfl, rfl, rfl, rfl⟩, rfl, rfl, rfl, rfl⟩
theorem underCall : ∃ f0 f1 : Field, Tryz.prog.underlying 29 = some (.struct #[f0, f1]) ∧ (f0.offset = 0 ∧ f1.offset = 1) ∧ f0.type = 3 ∧ f1.type = 27 := ⟨_, _, Tryz.underlying29, ⟨rfl, rfl⟩, rfl, rfl⟩
theorem underCmd : ∃ f0 f1 f2 f3 f4 f5 : Field, Tryz.prog.underlying 27 = some (.struct #[f0, f1, f2, f3, f4, f5]) ∧ (f0.offset = 0 ∧ f1.offset = 1 ∧ f2.offset = 2 ∧ f3.offset = 3 ∧ f4.offset = 4 ∧ f5.offset = 5) ∧ f0.type = 3 ∧ f1.type = 3 ∧ f2.type = 3 ∧ f3.type = 9 ∧ f4.type = 9 ∧ f5.type = 9 := ⟨_, _, _, _, _, _, Tryz.underlying27, ⟨rfl, rfl, rfl, rfl, rfl, rfl⟩, rfl, rfl, rfl, rfl, rfl, rfl⟩

set_option maxRecDepth 100000 in
/-- Bytes that came in. -/
theorem inBytes {H : Type} {enc : TypeId × Value → H} {W : World} {n : Nat} {v : Value} {x : DataW H × List MemPlace} (h : DataW.trod enc Tryz.prog W 0 (fun _ => true) true n 25 [v] = some x) :
    ∃ (a : Option Addr) (c : Nat) (l : List UInt8), v = .slice a l.length c ∧ Sl W.heap.size W (.slice a l.length c) l := by
  obtain ⟨a4, n4, k4, e4, zs, w4⟩ : ∃ a4 n4 k4, v = .slice a4 n4 k4 ∧ ∃ zs, IsRow .u8 W a4 n4 k4 zs := by
    rcases open_ints Tryz.underlying25 Tryz.underlying5 (by kernel_rfl) h with ⟨hcs, _⟩ | ⟨x, l, c, zs, hcs, _, hl, hm, hz, hxz, hcell, hwz⟩
    · simp at hcs
      exact ⟨none, 0, 0, hcs, [], .inl ⟨rfl, rfl, rfl, rfl⟩⟩
    · simp at hcs
      exact ⟨some x, l, c, hcs, zs, .inr ⟨_, rfl, hl, hm, by simpa using hz, hcell, hwz⟩⟩
  subst e4
  obtain ⟨l, hl, hs⟩ := isRow_sl w4
  subst hl
  exact ⟨a4, k4, l, rfl, hs⟩

set_option maxRecDepth 100000 in
/-- An act that came in. -/
theorem inActs1 {H : Type} {enc : TypeId × Value → H} {W : World} {n : Nat} {cs : List Value} {x : DataW H × List MemPlace} (hlen : cs.length = 10) (h : DataW.trod enc Tryz.prog W 0 (fun _ => true) true n 31 cs = some x) :
    ∃ (o : Ac) (d : Value), cs = (o.cells d).toList ∧ Sl W.heap.size W d o.data := by
  obtain ⟨f0, f1, f2, f3, hu, ⟨o0, o1, o2, o3⟩, t0, t1, t2, t3⟩ := underA
  obtain ⟨xs, k, _, _, _, hxl, hf⟩ := DataW.trod_struct hu h
  obtain ⟨v0, v1, v2, v3, v4, v5, v6, v7, v8, v9, rfl⟩ := list10 hlen
  obtain ⟨y0, y1, y2, y3, rfl⟩ := list4 hxl
  have g0 := hf 0 f0 rfl
  rw [o0, t0, cellsOfI] at g0
  have g1 := hf 1 f1 rfl
  rw [o1, t1, cellsOfI] at g1
  have g2 := hf 2 f2 rfl
  rw [o2, t2, cellsOfB] at g2
  have g3 := hf 3 f3 rfl
  rw [o3, t3, cellsOfCall] at g3
  simp at g0 g1 g2 g3
  obtain ⟨z0, e0, -, -⟩ := DataW.trod_int Tryz.underlying3 g0
  simp at e0
  subst e0
  obtain ⟨z1, e1, -, -⟩ := DataW.trod_int Tryz.underlying3 g1
  simp at e1
  subst e1
  obtain ⟨a, c, l, rfl, hs⟩ := inBytes g2
  obtain ⟨F0, F1, Hu, ⟨O0, O1⟩, T0, T1⟩ := underCall
  obtain ⟨Xs, K, _, _, _, Hxl, Hf⟩ := DataW.trod_struct Hu g3
  obtain ⟨Y0, Y1, rfl⟩ := list2 Hxl
  have G0 := Hf 0 F0 rfl
  rw [O0, T0, cellsOfI] at G0
  have G1 := Hf 1 F1 rfl
  rw [O1, T1, cellsOfCmd] at G1
  simp at G0 G1
  obtain ⟨z3, e3, -, -⟩ := DataW.trod_int Tryz.underlying3 G0
  simp at e3
  subst e3
  obtain ⟨q0, q1, q2, q3, q4, q5, hU, ⟨p0, p1, p2, p3, p4, p5⟩, s0, s1, s2, s3, s4, s5⟩ := underCmd
  obtain ⟨XS, KK, _, _, _, hXl, hF⟩ := DataW.trod_struct hU G1
  obtain ⟨Z0, Z1, Z2, Z3, Z4, Z5, rfl⟩ := list6 hXl
  have r0 := hF 0 q0 rfl
  rw [p0, s0, cellsOfI] at r0
  have r1 := hF 1 q1 rfl
  rw [p1, s1, cellsOfI] at r1
  have r2 := hF 2 q2 rfl
  rw [p2, s2, cellsOfI] at r2
  have r3 := hF 3 q3 rfl
  rw [p3, s3, cellsOfS] at r3
  have r4 := hF 4 q4 rfl
  rw [p4, s4, cellsOfS] at r4
  have r5 := hF 5 q5 rfl
  rw [p5, s5, cellsOfS] at r5
  simp at r0 r1 r2 r3 r4 r5
  obtain ⟨z4, e4, -, -⟩ := DataW.trod_int Tryz.underlying3 r0
  simp at e4
  subst e4
  obtain ⟨z5, e5, -, -⟩ := DataW.trod_int Tryz.underlying3 r1
  simp at e5
  subst e5
  obtain ⟨z6, e6, -, -⟩ := DataW.trod_int Tryz.underlying3 r2
  simp at e6
  subst e6
  obtain ⟨z7, e7, -, -⟩ := DataW.trod_string Tryz.underlying9 r3
  simp at e7
  subst e7
  obtain ⟨z8, e8, -, -⟩ := DataW.trod_string Tryz.underlying9 r4
  simp at e8
  subst e8
  obtain ⟨z9, e9, -, -⟩ := DataW.trod_string Tryz.underlying9 r5
  simp at e9
  subst e9
  exact ⟨⟨z0, z1, l, z3, z4, z5, z6, z7, z8, z9⟩, _, rfl, hs⟩
theorem act_cells {N : Nat} {W : World} {b o : Nat} {cs : List Value} {x : Ac} {d : Value} (he : cs = (x.cells d).toList) (hc : ∀ j, j < 10 → W.cell? ⟨b, o + j, none⟩ = cs[j]?) (hs : Sl N W d x.data) : AcAt N W b o x d := by
  subst he
  exact ⟨hs, hc 0 (by omega), hc 1 (by omega), hc 2 (by omega), hc 3 (by omega), hc 4 (by omega), hc 5 (by omega), hc 6 (by omega), hc 7 (by omega), hc 8 (by omega), hc 9 (by omega)⟩

set_option maxRecDepth 100000 in
/-- Acts that came in. -/
theorem inActs {H : Type} {enc : TypeId × Value → H} {W : World} {n : Nat} {v : Value} {x : DataW H × List MemPlace} (h : DataW.trod enc Tryz.prog W 0 (fun _ => true) true n 24 [v] = some x) :
    ∃ l : List Ac, LAt W.heap.size W v l := by
  rcases Deep.open_slice Tryz.underlying24 h with ⟨hcs, _⟩ | ⟨x, l, c, m, n, E, Pl, hcs, _, hl, hm, hmm, hx, hcell⟩
  · simp at hcs
    exact ⟨[], none, 0, hcs, by simp, by unfold maxLen; omega, .inl rfl⟩
  · simp at hcs
    subst hcs
    by_cases hz : l = 0
    · subst hz; exact ⟨[], some x, c, rfl, by simp, hm, .inl rfl⟩
    · have hml : l ≤ m := by rw [hmm]; split <;> omega
      obtain ⟨b, off, spot⟩ := x
      have hspot : spot = none := by
        obtain ⟨cs', hc', -⟩ := hcell 0 (by omega)
        rw [cellsOfA] at hc'
        obtain ⟨_, hlen, hc⟩ := World.cells?_some hc'
        have h00 := hc 0 (by omega)
        rw [List.getElem?_eq_getElem (by omega)] at h00
        simpa [Addr.add] using World.cell?_spot h00
      subst hspot
      have each : ∀ i, i < l → ∃ e : Ac, ∃ d, AcAt W.heap.size W b (off + i * 10) e d := by
        intro i hi
        obtain ⟨cs', hc', ht⟩ := hcell i (by omega)
        rw [cellsOfA, Addr.add_lit] at hc'
        obtain ⟨_, hlen, hc⟩ := World.cells?_some hc'
        obtain ⟨o, d, he, hs⟩ := inActs1 hlen ht
        exact ⟨o, d, act_cells he (fun j hj => by have := hc j hj; rwa [Addr.add_lit] at this) hs⟩
      have inh : Inhabited Ac := ⟨act0⟩
      obtain ⟨D, hD⟩ := Deep.choose_lt each
      have hlt : b < W.heap.size := by obtain ⟨d, hd⟩ := hD 0 (by omega); exact cell_lt hd.c0
      refine ⟨(List.range l).map D, some ⟨b, off, none⟩, c, by simp, by simpa using hl, hm, .inr ⟨b, off, rfl, hlt, fun i hi => ?_⟩⟩
      simp at hi
      rw [show aat ((List.range l).map D) i = D i by unfold aat; simp [hi]]
      exact hD i hi
set_option maxRecDepth 100000 in
/-- Lists of acts that came in. -/
theorem inLists {H : Type} {enc : TypeId × Value → H} {W : World} {n : Nat} {v : Value} {x : DataW H × List MemPlace} (h : DataW.trod enc Tryz.prog W 0 (fun _ => true) true n 22 [v] = some x) :
    ∃ (ea : Option Addr) (ec : Nat) (ls : List (List Ac)), v = .slice ea ls.length ec ∧ LsAt W.heap.size W (fun _ => True) ea ls ∧ ls.length ≤ 9223372036854775807 := by
  rcases Deep.open_slice Tryz.underlying22 h with ⟨hcs, _⟩ | ⟨x, l, c, m, n, E, Pl, hcs, _, hl, hm, hmm, hx, hcell⟩
  · simp at hcs
    exact ⟨none, 0, [], hcs, .inl rfl, by simp⟩
  · simp at hcs
    subst hcs
    have hlm : l ≤ 9223372036854775807 := by have := hm; unfold maxLen at this; omega
    by_cases hz : l = 0
    · subst hz; exact ⟨some x, c, [], rfl, .inl rfl, by simp⟩
    · have hml : l ≤ m := by rw [hmm]; split <;> omega
      obtain ⟨b, off, spot⟩ := x
      have hspot : spot = none := by
        obtain ⟨cs', hc', -⟩ := hcell 0 (by omega)
        rw [cellsOfL] at hc'
        obtain ⟨_, hlen, hc⟩ := World.cells?_some hc'
        have h00 := hc 0 (by omega)
        rw [List.getElem?_eq_getElem (by omega)] at h00
        simpa [Addr.add] using World.cell?_spot h00
      subst hspot
      have each : ∀ i, i < l → ∃ e : List Ac, ∃ v, W.cell? ⟨b, off + i, none⟩ = some v ∧ LAt W.heap.size W v e := by
        intro i hi
        obtain ⟨cs', hc', ht⟩ := hcell i (by omega)
        rw [cellsOfL, Addr.add_lit] at hc'
        obtain ⟨_, hlen, hc⟩ := World.cells?_some hc'
        match cs', hlen with
        | [u], _ =>
          obtain ⟨l', hl'⟩ := inActs ht
          refine ⟨l', u, ?_, hl'⟩
          have := hc 0 (by omega)
          rw [Addr.add_lit] at this
          simpa using this
      have inh : Inhabited (List Ac) := ⟨[]⟩
      obtain ⟨D, hD⟩ := Deep.choose_lt each
      have hlt : b < W.heap.size := by obtain ⟨v, hv, -⟩ := hD 0 (by omega); exact cell_lt hv
      refine ⟨some ⟨b, off, none⟩, c, (List.range l).map D, by simp, .inr ⟨b, off, rfl, hlt, trivial, fun i hi => ?_⟩, by simpa using hlm⟩
      simp at hi
      rw [show lat ((List.range l).map D) i = D i by unfold lat; simp [hi]]
      exact hD i hi
end Go.Proofs.YtgonbicpehjogaaGreatDoor
