/-
  Operations that came in, as the row reads them.
-/
import Derived.Test.YtnahghldlkjleaaGreatDoorXH
import Derived.WalkKit
import Derived.ProofKit
import Derived.OpenShut
import Derived.ShutString
import Derived.ChangeOld
import Derived.Deep.SlicePairs
import Derived.SizedLaws
namespace Go.Proofs.YtnahghldlkjleaaGreatDoor
open Go.ChangeShapes Go.WideShapes Go.ChangeAt Go.RowKit
set_option linter.unusedVariables false

/-- An operation: its kind, its number, its batch. -/
structure Wop where
  k : Int
  n : Int
  B : Bt
def nilWop : Wop := ⟨0, 0, ⟨false, 0, 0, 0, 0, 0, none, 0, []⟩⟩
def WopAt (N : Nat) (w : World) (b off : Nat) (o : Wop) : Prop :=
  (w.cell? ⟨b, off, none⟩ = some (.int .i64 o.k) ∧ w.cell? ⟨b, off + 1, none⟩ = some (.int .i64 o.n) ∧ w.cell? ⟨b, off + 2, none⟩ = some (.bool o.B.has) ∧ w.cell? ⟨b, off + 3, none⟩ = some (.int .i64 o.B.t) ∧ w.cell? ⟨b, off + 4, none⟩ = some (.int .i64 o.B.v) ∧ w.cell? ⟨b, off + 5, none⟩ = some (.int .i64 o.B.c) ∧ w.cell? ⟨b, off + 6, none⟩ = some (.int .i64 o.B.i) ∧ w.cell? ⟨b, off + 7, none⟩ = some (.int .i64 o.B.tm) ∧ w.cell? ⟨b, off + 8, none⟩ = some (.slice o.B.a o.B.es.length o.B.cp)) ∧
  EntsAt N w o.B.a o.B.es ∧ o.B.es.length ≤ o.B.cp ∧ o.B.cp ≤ maxLen
def WopsAt (N : Nat) (w : World) (a : Option Addr) (os : List Wop) : Prop :=
  os = [] ∨ ∃ b off, a = some ⟨b, off, none⟩ ∧ b < N ∧ ∀ i, i < os.length → WopAt N w b (off + i * 9) (os.getD i nilWop)
theorem WopAt.below {N : Nat} {w w' : World} {b off : Nat} {o : Wop} (h : WopAt N w b off o) (hb : b < N) (hB : Below N w w') : WopAt N w' b off o := by
  obtain ⟨⟨c0, c1, c2, c3, c4, c5, c6, c7, c8⟩, he, hl⟩ := h
  exact ⟨⟨(hB.cell (p := ⟨b, off, none⟩) hb).trans c0, (hB.cell (p := ⟨b, off + 1, none⟩) hb).trans c1, (hB.cell (p := ⟨b, off + 2, none⟩) hb).trans c2, (hB.cell (p := ⟨b, off + 3, none⟩) hb).trans c3, (hB.cell (p := ⟨b, off + 4, none⟩) hb).trans c4, (hB.cell (p := ⟨b, off + 5, none⟩) hb).trans c5, (hB.cell (p := ⟨b, off + 6, none⟩) hb).trans c6, (hB.cell (p := ⟨b, off + 7, none⟩) hb).trans c7, (hB.cell (p := ⟨b, off + 8, none⟩) hb).trans c8⟩, he.below hB, hl⟩
theorem WopsAt.below {N : Nat} {w w' : World} {a : Option Addr} {os : List Wop} (h : WopsAt N w a os) (hB : Below N w w') : WopsAt N w' a os := by
  rcases h with h | ⟨b, off, ha, hb, hc⟩
  · exact .inl h
  · exact .inr ⟨b, off, ha, hb, fun i hi => (hc i hi).below hb hB⟩
theorem WopsAt.at {N : Nat} {w : World} {a : Option Addr} {os : List Wop} (h : WopsAt N w a os) {i : Nat} (hi : i < os.length) : ∃ b off, a = some ⟨b, off, none⟩ ∧ b < N ∧ WopAt N w b (off + i * 9) (os.getD i nilWop) := by
  rcases h with h | ⟨b, off, ha, hb, hc⟩
  · subst h; simp at hi
  · exact ⟨b, off, ha, hb, hc i hi⟩

/-- A slice of integers that came in: nil, or a row of cells. -/
def IsRow (k : IntKind) (w : World) (a : Option Addr) (len cap : Nat) (zs : List Int) : Prop :=
  (a = none ∧ len = 0 ∧ cap = 0 ∧ zs = []) ∨
  ∃ x, a = some x ∧ len ≤ cap ∧ cap ≤ maxLen ∧ zs.length = cap ∧ (∀ i, i < zs.length → w.cell? (x.add i) = some (.int k (zs.getD i 0))) ∧ ∀ n ∈ zs, (Lit.int k n).wf = true

theorem cell_lt {w : World} {p : Addr} {v : Value} (h : w.cell? p = some v) : p.block < w.heap.size := by
  exact World.block_lt_of_cell? w p h

theorem isRow_sl {w : World} {a : Option Addr} {len cap : Nat} {zs : List Int} (h : IsRow .u8 w a len cap zs) : ∃ l : List UInt8, l.length = len ∧ Sl w.heap.size w (.slice a len cap) l := by
  rcases h with ⟨rfl, rfl, rfl, rfl⟩ | ⟨x, rfl, hl, hm, hz, hc, hwf⟩
  · exact ⟨[], rfl, Sl.nil _ _⟩
  · refine ⟨(zs.take len).map (fun z => UInt8.ofNat z.toNat), by simp; omega, ?_⟩
    have hlen : ((zs.take len).map (fun z => UInt8.ofNat z.toNat)).length = len := by simp; omega
    refine ⟨some x, cap, by rw [hlen], by omega, hm, ?_⟩
    by_cases h0 : len = 0
    · subst h0; exact .inl (by simp)
    · obtain ⟨b, off, spot⟩ := x
      have hc0 := hc 0 (by omega)
      have hspot : spot = none := by simpa [Addr.add] using World.cell?_spot hc0
      subst hspot
      refine .inr ⟨b, off, rfl, ?_, fun i hi => ?_⟩
      · have := cell_lt hc0; rw [Addr.add_lit] at this; exact this
      · rw [hlen] at hi
        have h1 := hc i (by omega)
        rw [Addr.add_lit] at h1
        rw [h1]
        have hmem : zs.getD i 0 ∈ zs := by
          rw [List.getD_eq_getElem?_getD, List.getElem?_eq_getElem (by omega)]; exact List.getElem_mem _
        have hb := bounds_u8 (hwf _ hmem)
        simp only [List.getElem?_map, List.getElem?_take, hi, if_true, List.getD_eq_getElem?_getD] at hb ⊢
        rw [List.getElem?_eq_getElem (by omega)] at hb ⊢
        simp only [Option.getD_some, Option.map_some, encB] at hb ⊢
        congr 2
        simp
        omega


theorem cellsOfI : Tryz.prog.cellsOf 3 = 1 := by kernel_rfl
theorem cellsOfBo : Tryz.prog.cellsOf 4 = 1 := by kernel_rfl
theorem cellsOfB : Tryz.prog.cellsOf 55 = 1 := by kernel_rfl
theorem cellsOfEs : Tryz.prog.cellsOf 37 = 1 := by kernel_rfl
theorem cellsOfSt : Tryz.prog.cellsOf 36 = 3 := by kernel_rfl
theorem cellsOfE : Tryz.prog.cellsOf 88 = 4 := by kernel_rfl
theorem cellsOfBa : Tryz.prog.cellsOf 39 = 7 := by kernel_rfl
theorem cellsOfW : Tryz.prog.cellsOf 41 = 9 := by kernel_rfl
theorem lst1 {α : Type} {cs : List α} (h : cs.length = 1) : ∃ v0, cs = [v0] := by
  match cs, h with
  | [v0], _ => exact ⟨_, rfl⟩
theorem lst3 {α : Type} {cs : List α} (h : cs.length = 3) : ∃ v0 v1 v2, cs = [v0, v1, v2] := by
  match cs, h with
  | [v0, v1, v2], _ => exact ⟨_, _, _, rfl⟩
theorem lst4 {α : Type} {cs : List α} (h : cs.length = 4) : ∃ v0 v1 v2 v3, cs = [v0, v1, v2, v3] := by
  match cs, h with
  | [v0, v1, v2, v3], _ => exact ⟨_, _, _, _, rfl⟩
theorem lst5 {α : Type} {cs : List α} (h : cs.length = 5) : ∃ v0 v1 v2 v3 v4, cs = [v0, v1, v2, v3, v4] := by
  match cs, h with
  | [v0, v1, v2, v3, v4], _ => exact ⟨_, _, _, _, _, rfl⟩
theorem lst7 {α : Type} {cs : List α} (h : cs.length = 7) : ∃ v0 v1 v2 v3 v4 v5 v6, cs = [v0, v1, v2, v3, v4, v5, v6] := by
  match cs, h with
  | [v0, v1, v2, v3, v4, v5, v6], _ => exact ⟨_, _, _, _, _, _, _, rfl⟩
theorem lst9 {α : Type} {cs : List α} (h : cs.length = 9) : ∃ v0 v1 v2 v3 v4 v5 v6 v7 v8, cs = [v0, v1, v2, v3, v4, v5, v6, v7, v8] := by
  match cs, h with
  | [v0, v1, v2, v3, v4, v5, v6, v7, v8], _ => exact ⟨_, _, _, _, _, _, _, _, _, rfl⟩
theorem underE : ∃ f0 f1 f2 f3 : Field, Tryz.prog.underlying 88 = some (.struct #[f0, f1, f2, f3]) ∧ (f0.offset = 0 ∧ f1.offset = 1 ∧ f2.offset = 2 ∧ f3.offset = 3) ∧ f0.type = 3 ∧ f1.type = 3 ∧ f2.type = 3 ∧ f3.type = 55 := ⟨_, _, _, _, Tryz.underlying88, ⟨rfl, rfl, rfl, rfl⟩, rfl, rfl, rfl, rfl⟩
theorem underS : ∃ f0 f1 f2 : Field, Tryz.prog.underlying 36 = some (.struct #[f0, f1, f2]) ∧ (f0.offset = 0 ∧ f1.offset = 1 ∧ f2.offset = 2) ∧ f0.type = 3 ∧ f1.type = 3 ∧ f2.type = 3 := ⟨_, _, _, Tryz.underlying36, ⟨rfl, rfl, rfl⟩, rfl, rfl, rfl⟩
theorem underB : ∃ f0 f1 f2 f3 f4 : Field, Tryz.prog.underlying 39 = some (.struct #[f0, f1, f2, f3, f4]) ∧ (f0.offset = 0 ∧ f1.offset = 1 ∧ f2.offset = 4 ∧ f3.offset = 5 ∧ f4.offset = 6) ∧ f0.type = 4 ∧ f1.type = 36 ∧ f2.type = 3 ∧ f3.type = 3 ∧ f4.type = 37 := ⟨_, _, _, _, _, Tryz.underlying39, ⟨rfl, rfl, rfl, rfl, rfl⟩, rfl, rfl, rfl, rfl, rfl⟩
theorem underW : ∃ f0 f1 f2 : Field, Tryz.prog.underlying 41 = some (.struct #[f0, f1, f2]) ∧ (f0.offset = 0 ∧ f1.offset = 1 ∧ f2.offset = 2) ∧ f0.type = 3 ∧ f1.type = 3 ∧ f2.type = 39 := ⟨_, _, _, Tryz.underlying41, ⟨rfl, rfl, rfl⟩, rfl, rfl, rfl⟩

set_option maxRecDepth 100000 in
/-- Bytes that came in. -/
theorem inBytes {H : Type} {enc : TypeId × Value → H} {W : World} {n : Nat} {v : Value} {x : DataW H × List MemPlace} (h : DataW.trod enc Tryz.prog W 0 (fun _ => true) true n 55 [v] = some x) :
    ∃ (a : Option Addr) (c : Nat) (l : List UInt8), v = .slice a l.length c ∧ Sl W.heap.size W (.slice a l.length c) l := by
  obtain ⟨a4, n4, k4, e4, zs, w4⟩ : ∃ a4 n4 k4, v = .slice a4 n4 k4 ∧ ∃ zs, IsRow .u8 W a4 n4 k4 zs := by
    rcases open_ints Tryz.underlying55 Tryz.underlying5 (by kernel_rfl) h with ⟨hcs, _⟩ | ⟨x, l, c, zs, hcs, _, hl, hm, hz, hxz, hcell, hwz⟩
    · simp at hcs
      exact ⟨none, 0, 0, hcs, [], .inl ⟨rfl, rfl, rfl, rfl⟩⟩
    · simp at hcs
      exact ⟨some x, l, c, hcs, zs, .inr ⟨_, rfl, hl, hm, by simpa using hz, hcell, hwz⟩⟩
  subst e4
  obtain ⟨l, hl, hs⟩ := isRow_sl w4
  subst hl
  exact ⟨a4, k4, l, rfl, hs⟩


set_option maxRecDepth 100000 in
/-- An entry that came in. -/
theorem inEnt {H : Type} {enc : TypeId × Value → H} {W : World} {n : Nat} {cs : List Value} {x : DataW H × List MemPlace} (hlen : cs.length = 4) (h : DataW.trod enc Tryz.prog W 0 (fun _ => true) true n 88 cs = some x) :
    ∃ e : Ent, cs = [.int .i64 e.t, .int .i64 e.i, .int .i64 e.k, .slice e.a e.d.length e.c] ∧ Sl W.heap.size W (.slice e.a e.d.length e.c) e.d := by
  obtain ⟨f0, f1, f2, f3, hu, ⟨o0, o1, o2, o3⟩, t0, t1, t2, t3⟩ := underE
  obtain ⟨xs, k, _, _, _, hxl, hf⟩ := DataW.trod_struct hu h
  obtain ⟨v0, v1, v2, v3, rfl⟩ := lst4 hlen
  obtain ⟨y0, y1, y2, y3, rfl⟩ := lst4 hxl
  have g0 := hf 0 f0 rfl
  rw [o0, t0, cellsOfI] at g0
  have g1 := hf 1 f1 rfl
  rw [o1, t1, cellsOfI] at g1
  have g2 := hf 2 f2 rfl
  rw [o2, t2, cellsOfI] at g2
  have g3 := hf 3 f3 rfl
  rw [o3, t3, cellsOfB] at g3
  simp at g0 g1 g2 g3
  obtain ⟨z0, e0, -, -⟩ := DataW.trod_int Tryz.underlying3 g0
  simp at e0
  subst e0
  obtain ⟨z1, e1, -, -⟩ := DataW.trod_int Tryz.underlying3 g1
  simp at e1
  subst e1
  obtain ⟨z2, e2, -, -⟩ := DataW.trod_int Tryz.underlying3 g2
  simp at e2
  subst e2
  obtain ⟨a, c, l, rfl, hs⟩ := inBytes g3
  exact ⟨⟨z0, z1, z2, a, c, l⟩, rfl, hs⟩

set_option maxRecDepth 100000 in
/-- Entries that came in. -/
theorem inEnts {H : Type} {enc : TypeId × Value → H} {W : World} {n : Nat} {v : Value} {x : DataW H × List MemPlace} (h : DataW.trod enc Tryz.prog W 0 (fun _ => true) true n 37 [v] = some x) :
    ∃ (ea : Option Addr) (ec : Nat) (es : List Ent), v = .slice ea es.length ec ∧ EntsAt W.heap.size W ea es ∧ es.length ≤ ec ∧ ec ≤ maxLen := by
  rcases Deep.open_slice Tryz.underlying37 h with ⟨hcs, _⟩ | ⟨x, l, c, m, n, E, Pl, hcs, _, hl, hm, hmm, hx, hcell⟩
  · simp at hcs
    exact ⟨none, 0, [], hcs, .inl rfl, Nat.le_refl _, by unfold maxLen; omega⟩
  · simp at hcs
    by_cases hz : l = 0
    · subst hz; exact ⟨some x, c, [], hcs, .inl rfl, Nat.zero_le _, hm⟩
    · have hml : l ≤ m := by rw [hmm]; split <;> omega
      obtain ⟨b, off, spot⟩ := x
      have hspot : spot = none := by
        obtain ⟨cs', hc', -⟩ := hcell 0 (by omega)
        rw [cellsOfE] at hc'
        obtain ⟨_, hlen, hc⟩ := World.cells?_some hc'
        have h00 := hc 0 (by omega)
        rw [List.getElem?_eq_getElem (by omega)] at h00
        simpa [Addr.add] using World.cell?_spot h00
      subst hspot
      have each : ∀ i, i < l → ∃ e : Ent, EntAt W.heap.size W b (off + i * 4) e := by
        intro i hi
        obtain ⟨cs', hc', ht⟩ := hcell i (by omega)
        rw [cellsOfE, Addr.add_lit] at hc'
        obtain ⟨_, hlen, hc⟩ := World.cells?_some hc'
        obtain ⟨e, rfl, hs⟩ := inEnt hlen ht
        have c0 := hc 0 (by omega)
        have c1 := hc 1 (by omega)
        have c2 := hc 2 (by omega)
        have c3 := hc 3 (by omega)
        rw [Addr.add_lit] at c0 c1 c2 c3
        simp at c0 c1 c2 c3
        exact ⟨e, c0, c1, c2, c3, hs⟩
      have inh : Inhabited Ent := ⟨nilEnt⟩
      obtain ⟨D, hD⟩ := Deep.choose_lt each
      have hlt : b < W.heap.size := cell_lt (hD 0 (by omega)).1
      refine ⟨some ⟨b, off, none⟩, c, (List.range l).map D, by simpa using hcs, .inr ⟨b, off, rfl, hlt, fun i hi => ?_⟩, by simpa using hl, hm⟩
      simp at hi
      rw [show ((List.range l).map D).getD i nilEnt = D i by simp [hi]]
      exact hD i hi

set_option maxRecDepth 100000 in
/-- A batch that came in. -/
theorem inBt {H : Type} {enc : TypeId × Value → H} {W : World} {n : Nat} {cs : List Value} {x : DataW H × List MemPlace} (hlen : cs.length = 7) (h : DataW.trod enc Tryz.prog W 0 (fun _ => true) true n 39 cs = some x) :
    ∃ B : Bt, cs = [.bool B.has, .int .i64 B.t, .int .i64 B.v, .int .i64 B.c, .int .i64 B.i, .int .i64 B.tm, .slice B.a B.es.length B.cp] ∧ EntsAt W.heap.size W B.a B.es ∧ B.es.length ≤ B.cp ∧ B.cp ≤ maxLen := by
  obtain ⟨f0, f1, f2, f3, f4, hu, ⟨o0, o1, o2, o3, o4⟩, t0, t1, t2, t3, t4⟩ := underB
  obtain ⟨xs, k, _, _, _, hxl, hf⟩ := DataW.trod_struct hu h
  obtain ⟨v0, v1, v2, v3, v4, v5, v6, rfl⟩ := lst7 hlen
  obtain ⟨y0, y1, y2, y3, y4, rfl⟩ := lst5 hxl
  have g0 := hf 0 f0 rfl
  rw [o0, t0, cellsOfBo] at g0
  have g1 := hf 1 f1 rfl
  rw [o1, t1, cellsOfSt] at g1
  have g2 := hf 2 f2 rfl
  rw [o2, t2, cellsOfI] at g2
  have g3 := hf 3 f3 rfl
  rw [o3, t3, cellsOfI] at g3
  have g4 := hf 4 f4 rfl
  rw [o4, t4, cellsOfEs] at g4
  simp at g0 g1 g2 g3 g4
  obtain ⟨b0, e0, -⟩ := DataW.trod_bool Tryz.underlying4 g0
  simp at e0
  subst e0
  obtain ⟨f5, f6, f7, hu2, ⟨o5, o6, o7⟩, t5, t6, t7⟩ := underS
  obtain ⟨xs2, k2, _, _, _, hxl2, hf2⟩ := DataW.trod_struct hu2 g1
  obtain ⟨y5, y6, y7, rfl⟩ := lst3 hxl2
  have q0 := hf2 0 f5 rfl
  rw [o5, t5, cellsOfI] at q0
  have q1 := hf2 1 f6 rfl
  rw [o6, t6, cellsOfI] at q1
  have q2 := hf2 2 f7 rfl
  rw [o7, t7, cellsOfI] at q2
  simp at q0 q1 q2
  obtain ⟨z5, e5, -, -⟩ := DataW.trod_int Tryz.underlying3 q0
  simp at e5
  subst e5
  obtain ⟨z6, e6, -, -⟩ := DataW.trod_int Tryz.underlying3 q1
  simp at e6
  subst e6
  obtain ⟨z7, e7, -, -⟩ := DataW.trod_int Tryz.underlying3 q2
  simp at e7
  subst e7
  obtain ⟨z2, e2, -, -⟩ := DataW.trod_int Tryz.underlying3 g2
  simp at e2
  subst e2
  obtain ⟨z3, e3, -, -⟩ := DataW.trod_int Tryz.underlying3 g3
  simp at e3
  subst e3
  obtain ⟨ea, ec, es, rfl, h1, h2, h3⟩ := inEnts g4
  exact ⟨⟨b0, z5, z6, z7, z2, z3, ea, ec, es⟩, rfl, h1, h2, h3⟩

set_option maxRecDepth 100000 in
/-- Operations that came in. -/
theorem inWops {H : Type} {enc : TypeId × Value → H} {W : World} {n : Nat} {v : Value} {x : DataW H × List MemPlace} (h : DataW.trod enc Tryz.prog W 0 (fun _ => true) true n 22 [v] = some x) :
    ∃ (ea : Option Addr) (ec : Nat) (es : List Wop), v = .slice ea es.length ec ∧ WopsAt W.heap.size W ea es ∧ es.length ≤ 9223372036854775807 := by
  rcases Deep.open_slice Tryz.underlying22 h with ⟨hcs, _⟩ | ⟨x, l, c, m, n, E, Pl, hcs, _, hl, hm, hmm, hx, hcell⟩
  · simp at hcs
    exact ⟨none, 0, [], hcs, .inl rfl, Nat.zero_le _⟩
  · simp at hcs
    have hlm : l ≤ 9223372036854775807 := by have := hm; unfold maxLen at this; omega
    by_cases hz : l = 0
    · subst hz; exact ⟨some x, c, [], hcs, .inl rfl, Nat.zero_le _⟩
    · have hml : l ≤ m := by rw [hmm]; split <;> omega
      obtain ⟨b, off, spot⟩ := x
      have hspot : spot = none := by
        obtain ⟨cs', hc', -⟩ := hcell 0 (by omega)
        rw [cellsOfW] at hc'
        obtain ⟨_, hlen, hc⟩ := World.cells?_some hc'
        have h00 := hc 0 (by omega)
        rw [List.getElem?_eq_getElem (by omega)] at h00
        simpa [Addr.add] using World.cell?_spot h00
      subst hspot
      have each : ∀ i, i < l → ∃ e : Wop, WopAt W.heap.size W b (off + i * 9) e := by
        intro i hi
        obtain ⟨cs', hc', ht⟩ := hcell i (by omega)
        rw [cellsOfW, Addr.add_lit] at hc'
        obtain ⟨_, hlen, hc⟩ := World.cells?_some hc'
        obtain ⟨f0, f1, f2, hu, ⟨o0, o1, o2⟩, t0, t1, t2⟩ := underW
        obtain ⟨xs, k, _, _, _, hxl, hf⟩ := DataW.trod_struct hu ht
        obtain ⟨v0, v1, v2, v3, v4, v5, v6, v7, v8, rfl⟩ := lst9 hlen
        obtain ⟨y0, y1, y2, rfl⟩ := lst3 hxl
        have g0 := hf 0 f0 rfl
        rw [o0, t0, cellsOfI] at g0
        have g1 := hf 1 f1 rfl
        rw [o1, t1, cellsOfI] at g1
        have g2 := hf 2 f2 rfl
        rw [o2, t2, cellsOfBa] at g2
        simp at g0 g1 g2
        obtain ⟨z0, e0, -, -⟩ := DataW.trod_int Tryz.underlying3 g0
        simp at e0
        subst e0
        obtain ⟨z1, e1, -, -⟩ := DataW.trod_int Tryz.underlying3 g1
        simp at e1
        subst e1
        obtain ⟨B, es, hs⟩ := inBt (by rfl) g2
        simp only [List.cons.injEq, and_true] at es
        obtain ⟨rfl, rfl, rfl, rfl, rfl, rfl, rfl⟩ := es
        have hcc : ∀ j, j < 9 → W.cell? ⟨b, off + i * 9 + j, none⟩ = [Value.int .i64 z0, .int .i64 z1, .bool B.has, .int .i64 B.t, .int .i64 B.v, .int .i64 B.c, .int .i64 B.i, .int .i64 B.tm, .slice B.a B.es.length B.cp][j]? := fun j hj => by have := hc j hj; rwa [Addr.add_lit] at this
        exact ⟨⟨z0, z1, B⟩, ⟨hcc 0 (by omega), hcc 1 (by omega), hcc 2 (by omega), hcc 3 (by omega), hcc 4 (by omega), hcc 5 (by omega), hcc 6 (by omega), hcc 7 (by omega), hcc 8 (by omega)⟩, hs⟩
      have inh : Inhabited Wop := ⟨nilWop⟩
      obtain ⟨D, hD⟩ := Deep.choose_lt each
      have hlt : b < W.heap.size := cell_lt (hD 0 (by omega)).1.1
      refine ⟨some ⟨b, off, none⟩, c, (List.range l).map D, by simpa using hcs, .inr ⟨b, off, rfl, hlt, fun i hi => ?_⟩, by simpa using hlm⟩
      simp at hi
      rw [show ((List.range l).map D).getD i nilWop = D i by simp [hi]]
      exact hD i hi
end Go.Proofs.YtnahghldlkjleaaGreatDoor
