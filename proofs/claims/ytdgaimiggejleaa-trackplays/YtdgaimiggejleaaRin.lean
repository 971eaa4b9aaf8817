/-
  What came in, as the walks read it: numbers, deeds, votes.
-/
import Derived.Test.YtdgaimiggejleaaRows
import Derived.Test.YtdgaimiggejleaaBas
import Derived.WalkKit
import Derived.ProofKit
import Derived.OpenShut
import Derived.ShutString
import Derived.ChangeOld
import Derived.Deep.SlicePairs
namespace Go.Proofs.Ytdgaimiggejleaa
open Go.ChangeShapes Go.WideShapes Go.ChangeAt Go.RowKit
set_option linter.unusedVariables false

theorem own : ownKnob Try.prog.godebug = none := by kernel_rfl
theorem laidOut : laidOutB Try.prog = true := by kernel_rfl
def In64 (x : Int) : Prop := -9223372036854775808 ≤ x ∧ x ≤ 9223372036854775807
/-- A number of any kind made one of 1 to m. -/
theorem small (m : Nat) (hm : 1 ≤ m) (hm2 : m ≤ 64) (r : Int) (hr : In64 r) : ∃ (x y : Int) (R : Nat), r.tmod (m : Int) = x ∧ IntKind.i64.wrap (x + (m : Int)) = x + (m : Int) ∧ (x + (m : Int)).tmod (m : Int) = y ∧ IntKind.i64.wrap (y + 1) = (R : Int) ∧ 1 ≤ R ∧ R ≤ m ∧ y = ((R - 1 : Nat) : Int) := by
  have h1 : -(m : Int) < r.tmod (m : Int) := by
    have h := Int.natAbs_tmod r (m : Int)
    have h' := Nat.mod_lt r.natAbs (y := (m : Int).natAbs) (by omega)
    rw [← h] at h'
    omega
  have h2 : r.tmod (m : Int) < (m : Int) := Int.tmod_lt_of_pos r (by omega)
  have h3 : 0 ≤ (r.tmod (m : Int) + (m : Int)).tmod (m : Int) := Int.tmod_nonneg _ (by omega)
  have h4 : (r.tmod (m : Int) + (m : Int)).tmod (m : Int) < (m : Int) := Int.tmod_lt_of_pos _ (by omega)
  refine ⟨_, _, ((r.tmod (m : Int) + (m : Int)).tmod (m : Int)).toNat + 1, rfl, ?_, rfl, ?_, by omega, by omega, by omega⟩
  · rw [IntKind.wrap_i64]; omega
  · rw [IntKind.wrap_i64]; omega

theorem small7 (r : Int) (hr : In64 r) : ∃ (x y : Int) (R : Nat), r.tmod 7 = x ∧ IntKind.i64.wrap (x + 7) = x + 7 ∧ (x + 7).tmod 7 = y ∧ IntKind.i64.wrap (y + 1) = (R : Int) ∧ 1 ≤ R ∧ R ≤ 7 ∧ y = ((R - 1 : Nat) : Int) := small 7 (by omega) (by omega) r hr
theorem small64 (r : Int) (hr : In64 r) : ∃ (x y : Int) (R : Nat), r.tmod 64 = x ∧ IntKind.i64.wrap (x + 64) = x + 64 ∧ (x + 64).tmod 64 = y ∧ IntKind.i64.wrap (y + 1) = (R : Int) ∧ 1 ≤ R ∧ R ≤ 64 ∧ y = ((R - 1 : Nat) : Int) := small 64 (by omega) (by omega) r hr
theorem cell_lt {w : World} {p : Addr} {v : Value} (h : w.cell? p = some v) : p.block < w.heap.size := World.block_lt_of_cell? w p h
theorem cellsOfI : Try.prog.cellsOf 3 = 1 := by kernel_rfl
theorem cellsOfL : Try.prog.cellsOf 4 = 1 := by kernel_rfl
/-- A slice of integers that came in: nil, or a row of cells. -/
def IsRow (k : IntKind) (w : World) (a : Option Addr) (len cap : Nat) (zs : List Int) : Prop :=
  (a = none ∧ len = 0 ∧ cap = 0 ∧ zs = []) ∨
  ∃ x, a = some x ∧ len ≤ cap ∧ cap ≤ maxLen ∧ zs.length = cap ∧ (∀ i, i < zs.length → w.cell? (x.add i) = some (.int k (zs.getD i 0))) ∧ ∀ n ∈ zs, (Lit.int k n).wf = true

theorem isRow_sl {w : World} {a : Option Addr} {len cap : Nat} {zs : List Int} (h : IsRow .i64 w a len cap zs) : ∃ l : List Int, l.length = len ∧ Sl w.heap.size w (.slice a len cap) l := by
  rcases h with ⟨rfl, rfl, rfl, rfl⟩ | ⟨x, rfl, hl, hm, hz, hc, hwf⟩
  · exact ⟨[], rfl, Sl.nil _ _⟩
  · have hlen : (zs.take len).length = len := by simp; omega
    refine ⟨zs.take len, hlen, some x, cap, by rw [hlen], by omega, hm, ?_⟩
    by_cases h0 : len = 0
    · subst h0; exact .inl (by simp)
    · obtain ⟨b, off, spot⟩ := x
      have hc0 := hc 0 (by omega)
      have hspot : spot = none := by simpa [Addr.add] using World.cell?_spot hc0
      subst hspot
      refine .inr ⟨b, off, rfl, ?_, fun i hi => ?_⟩
      · have := cell_lt hc0; rw [Addr.add_lit] at this; exact this
      · rw [hlen] at hi
        have h1 := hc i (by omega)
        rw [Addr.add_lit] at h1
        rw [h1]
        simp [hi]
theorem inInts {H : Type} {enc : TypeId × Value → H} {W : World} {n : Nat} {a : Option Addr} {len cap : Nat} {y : DataW H × List MemPlace} (hf : DataW.trod enc Try.prog W 0 (fun _ => true) true n 22 [.slice a len cap] = some y) : ∃ l : List Int, l.length = len ∧ Sl W.heap.size W (.slice a len cap) l := by
  obtain ⟨zs, hr⟩ : ∃ zs, IsRow .i64 W a len cap zs := by
    rcases open_ints Try.underlying22 Try.underlying3 (by kernel_rfl) hf with ⟨hcs, _⟩ | ⟨x, l, c, zs, hcs, _, hl, hm, hz, _, hcell, hwz⟩
    · simp at hcs
      obtain ⟨rfl, rfl, rfl⟩ := hcs
      exact ⟨[], .inl ⟨rfl, rfl, rfl, rfl⟩⟩
    · simp at hcs
      obtain ⟨rfl, rfl, rfl⟩ := hcs
      exact ⟨zs, .inr ⟨_, rfl, hl, hm, by simpa using hz, hcell, hwz⟩⟩
  exact isRow_sl hr
/-- One that came in. -/
structure Ded where
  kd : Int
  n : Int
  m : Int
def nilDed : Ded := ⟨0, 0, 0⟩
def DedAt (W : World) (b o : Nat) (x : Ded) : Prop :=
  (W.cell? ⟨b, o, none⟩ = some (.int .i64 x.kd) ∧ W.cell? ⟨b, o + 1, none⟩ = some (.int .i64 x.n) ∧ W.cell? ⟨b, o + 2, none⟩ = some (.int .i64 x.m)) ∧ In64 x.kd ∧ In64 x.n ∧ In64 x.m
def DedAts (N : Nat) (W : World) (a : Option Addr) (l : List Ded) : Prop :=
  l = [] ∨ ∃ b off, a = some ⟨b, off, none⟩ ∧ b < N ∧ ∀ i, i < l.length → DedAt W b (off + i * 3) (l.getD i nilDed)
theorem DedAt.below {N : Nat} {w w' : World} {b o : Nat} {x : Ded} (h : DedAt w b o x) (hb : b < N) (hB : Below N w w') : DedAt w' b o x := by
  obtain ⟨⟨h0, h1, h2⟩, r⟩ := h
  exact ⟨⟨(hB.cell (p := ⟨b, o, none⟩) hb).trans h0, (hB.cell (p := ⟨b, o + 1, none⟩) hb).trans h1, (hB.cell (p := ⟨b, o + 2, none⟩) hb).trans h2⟩, r⟩
theorem DedAts.at {N : Nat} {w : World} {a : Option Addr} {l : List Ded} (h : DedAts N w a l) {i : Nat} (hi : i < l.length) : ∃ b off, a = some ⟨b, off, none⟩ ∧ b < N ∧ DedAt w b (off + i * 3) (l.getD i nilDed) := by
  rcases h with rfl | ⟨b, off, ha, hb, h⟩
  · simp at hi
  · exact ⟨b, off, ha, hb, h i hi⟩
theorem cellsOfD : Try.prog.cellsOf 46 = 3 := by kernel_rfl
theorem listDed {α : Type} {cs : List α} (h : cs.length = 3) : ∃ v0 v1 v2, cs = [v0, v1, v2] := by
  match cs, h with
  | [v0, v1, v2], _ => exact ⟨_, _, _, rfl⟩
theorem underDed : ∃ f0 f1 f2 : Field, Try.prog.underlying 46 = some (.struct #[f0, f1, f2]) ∧ (f0.offset = 0 ∧ f1.offset = 1 ∧ f2.offset = 2) ∧ f0.type = 3 ∧ f1.type = 3 ∧ f2.type = 3 := ⟨_, _, _, Try.underlying46, ⟨rfl, rfl, rfl⟩, rfl, rfl, rfl⟩

set_option maxRecDepth 100000 in
theorem inDed {H : Type} {enc : TypeId × Value → H} {W : World} {n : Nat} {cs : List Value} {x : DataW H × List MemPlace} (hlen : cs.length = 3) (h : DataW.trod enc Try.prog W 0 (fun _ => true) true n 46 cs = some x) :
    ∃ x : Ded, cs = [.int .i64 x.kd, .int .i64 x.n, .int .i64 x.m] ∧ In64 x.kd ∧ In64 x.n ∧ In64 x.m := by
  obtain ⟨f0, f1, f2, hu, ⟨o0, o1, o2⟩, t0, t1, t2⟩ := underDed
  obtain ⟨xs, k, _, _, _, hxl, hf⟩ := DataW.trod_struct hu h
  obtain ⟨v0, v1, v2, rfl⟩ := listDed hlen
  obtain ⟨y0, y1, y2, rfl⟩ := listDed hxl
  have g0 := hf 0 f0 rfl
  rw [o0, t0, cellsOfI] at g0
  have g1 := hf 1 f1 rfl
  rw [o1, t1, cellsOfI] at g1
  have g2 := hf 2 f2 rfl
  rw [o2, t2, cellsOfI] at g2
  simp at g0 g1 g2
  obtain ⟨z0, e0, -, hw0⟩ := DataW.trod_int Try.underlying3 g0
  simp at e0
  subst e0
  have b0 := bounds_i64 hw0
  obtain ⟨z1, e1, -, hw1⟩ := DataW.trod_int Try.underlying3 g1
  simp at e1
  subst e1
  have b1 := bounds_i64 hw1
  obtain ⟨z2, e2, -, hw2⟩ := DataW.trod_int Try.underlying3 g2
  simp at e2
  subst e2
  have b2 := bounds_i64 hw2
  exact ⟨⟨z0, z1, z2⟩, rfl, ⟨by show _ ≤ z0; omega, by show z0 ≤ _; omega⟩, ⟨by show _ ≤ z1; omega, by show z1 ≤ _; omega⟩, ⟨by show _ ≤ z2; omega, by show z2 ≤ _; omega⟩⟩

set_option maxRecDepth 100000 in
theorem inDeds {H : Type} {enc : TypeId × Value → H} {W : World} {n : Nat} {v : Value} {x : DataW H × List MemPlace} (h : DataW.trod enc Try.prog W 0 (fun _ => true) true n 40 [v] = some x) :
    ∃ (ea : Option Addr) (ec : Nat) (es : List Ded), v = .slice ea es.length ec ∧ DedAts W.heap.size W ea es ∧ es.length ≤ 9223372036854775807 := by
  rcases Deep.open_slice Try.underlying40 h with ⟨hcs, _⟩ | ⟨x, l, c, m, n, E, Pl, hcs, _, hl, hm, hmm, hx, hcell⟩
  · simp at hcs
    exact ⟨none, 0, [], hcs, .inl rfl, Nat.zero_le _⟩
  · simp at hcs
    have hlm : l ≤ 9223372036854775807 := by have := hm; unfold maxLen at this; omega
    by_cases hz : l = 0
    · subst hz; exact ⟨some x, c, [], hcs, .inl rfl, Nat.zero_le _⟩
    · have hml : l ≤ m := by rw [hmm]; split <;> omega
      obtain ⟨b, off, spot⟩ := x
      have hspot : spot = none := by
        obtain ⟨cs', hc', -⟩ := hcell 0 (by omega)
        rw [cellsOfD] at hc'
        obtain ⟨_, hlen, hc⟩ := World.cells?_some hc'
        have h00 := hc 0 (by omega)
        rw [List.getElem?_eq_getElem (by omega)] at h00
        simpa [Addr.add] using World.cell?_spot h00
      subst hspot
      have each : ∀ i, i < l → ∃ e : Ded, DedAt W b (off + i * 3) e := by
        intro i hi
        obtain ⟨cs', hc', ht⟩ := hcell i (by omega)
        rw [cellsOfD, Addr.add_lit] at hc'
        obtain ⟨_, hlen, hc⟩ := World.cells?_some hc'
        obtain ⟨e, rfl, hr⟩ := inDed hlen ht
        have c0 := hc 0 (by omega)
        have c1 := hc 1 (by omega)
        have c2 := hc 2 (by omega)
        rw [Addr.add_lit] at c0 c1 c2
        simp at c0 c1 c2
        exact ⟨e, ⟨c0, c1, c2⟩, hr⟩
      have inh : Inhabited Ded := ⟨nilDed⟩
      obtain ⟨D, hD⟩ := Deep.choose_lt each
      have hlt : b < W.heap.size := cell_lt (hD 0 (by omega)).1.1
      refine ⟨some ⟨b, off, none⟩, c, (List.range l).map D, by simpa using hcs, .inr ⟨b, off, rfl, hlt, fun i hi => ?_⟩, by simpa using hlm⟩
      simp at hi
      rw [show ((List.range l).map D).getD i nilDed = D i by simp [hi]]
      exact hD i hi
/-- One that came in. -/
structure Vot where
  id : Int
  yes : Bool
def nilVot : Vot := ⟨0, false⟩
def VotAt (W : World) (b o : Nat) (x : Vot) : Prop :=
  (W.cell? ⟨b, o, none⟩ = some (.int .i64 x.id) ∧ W.cell? ⟨b, o + 1, none⟩ = some (.bool x.yes)) ∧ In64 x.id
def VotAts (N : Nat) (W : World) (a : Option Addr) (l : List Vot) : Prop :=
  l = [] ∨ ∃ b off, a = some ⟨b, off, none⟩ ∧ b < N ∧ ∀ i, i < l.length → VotAt W b (off + i * 2) (l.getD i nilVot)
theorem VotAt.below {N : Nat} {w w' : World} {b o : Nat} {x : Vot} (h : VotAt w b o x) (hb : b < N) (hB : Below N w w') : VotAt w' b o x := by
  obtain ⟨⟨h0, h1⟩, r⟩ := h
  exact ⟨⟨(hB.cell (p := ⟨b, o, none⟩) hb).trans h0, (hB.cell (p := ⟨b, o + 1, none⟩) hb).trans h1⟩, r⟩
theorem VotAts.at {N : Nat} {w : World} {a : Option Addr} {l : List Vot} (h : VotAts N w a l) {i : Nat} (hi : i < l.length) : ∃ b off, a = some ⟨b, off, none⟩ ∧ b < N ∧ VotAt w b (off + i * 2) (l.getD i nilVot) := by
  rcases h with rfl | ⟨b, off, ha, hb, h⟩
  · simp at hi
  · exact ⟨b, off, ha, hb, h i hi⟩
theorem cellsOfV : Try.prog.cellsOf 35 = 2 := by kernel_rfl
theorem listVot {α : Type} {cs : List α} (h : cs.length = 2) : ∃ v0 v1, cs = [v0, v1] := by
  match cs, h with
  | [v0, v1], _ => exact ⟨_, _, rfl⟩
theorem underVot : ∃ f0 f1 : Field, Try.prog.underlying 35 = some (.struct #[f0, f1]) ∧ (f0.offset = 0 ∧ f1.offset = 1) ∧ f0.type = 3 ∧ f1.type = 4 := ⟨_, _, Try.underlying35, ⟨rfl, rfl⟩, rfl, rfl⟩

set_option maxRecDepth 100000 in
theorem inVot {H : Type} {enc : TypeId × Value → H} {W : World} {n : Nat} {cs : List Value} {x : DataW H × List MemPlace} (hlen : cs.length = 2) (h : DataW.trod enc Try.prog W 0 (fun _ => true) true n 35 cs = some x) :
    ∃ x : Vot, cs = [.int .i64 x.id, .bool x.yes] ∧ In64 x.id := by
  obtain ⟨f0, f1, hu, ⟨o0, o1⟩, t0, t1⟩ := underVot
  obtain ⟨xs, k, _, _, _, hxl, hf⟩ := DataW.trod_struct hu h
  obtain ⟨v0, v1, rfl⟩ := listVot hlen
  obtain ⟨y0, y1, rfl⟩ := listVot hxl
  have g0 := hf 0 f0 rfl
  rw [o0, t0, cellsOfI] at g0
  have g1 := hf 1 f1 rfl
  rw [o1, t1, cellsOfL] at g1
  simp at g0 g1
  obtain ⟨z0, e0, -, hw0⟩ := DataW.trod_int Try.underlying3 g0
  simp at e0
  subst e0
  have b0 := bounds_i64 hw0
  obtain ⟨z1, e1, -⟩ := DataW.trod_bool Try.underlying4 g1
  simp at e1
  subst e1
  exact ⟨⟨z0, z1⟩, rfl, ⟨by show _ ≤ z0; omega, by show z0 ≤ _; omega⟩⟩

set_option maxRecDepth 100000 in
theorem inVots {H : Type} {enc : TypeId × Value → H} {W : World} {n : Nat} {v : Value} {x : DataW H × List MemPlace} (h : DataW.trod enc Try.prog W 0 (fun _ => true) true n 28 [v] = some x) :
    ∃ (ea : Option Addr) (ec : Nat) (es : List Vot), v = .slice ea es.length ec ∧ VotAts W.heap.size W ea es ∧ es.length ≤ 9223372036854775807 := by
  rcases Deep.open_slice Try.underlying28 h with ⟨hcs, _⟩ | ⟨x, l, c, m, n, E, Pl, hcs, _, hl, hm, hmm, hx, hcell⟩
  · simp at hcs
    exact ⟨none, 0, [], hcs, .inl rfl, Nat.zero_le _⟩
  · simp at hcs
    have hlm : l ≤ 9223372036854775807 := by have := hm; unfold maxLen at this; omega
    by_cases hz : l = 0
    · subst hz; exact ⟨some x, c, [], hcs, .inl rfl, Nat.zero_le _⟩
    · have hml : l ≤ m := by rw [hmm]; split <;> omega
      obtain ⟨b, off, spot⟩ := x
      have hspot : spot = none := by
        obtain ⟨cs', hc', -⟩ := hcell 0 (by omega)
        rw [cellsOfV] at hc'
        obtain ⟨_, hlen, hc⟩ := World.cells?_some hc'
        have h00 := hc 0 (by omega)
        rw [List.getElem?_eq_getElem (by omega)] at h00
        simpa [Addr.add] using World.cell?_spot h00
      subst hspot
      have each : ∀ i, i < l → ∃ e : Vot, VotAt W b (off + i * 2) e := by
        intro i hi
        obtain ⟨cs', hc', ht⟩ := hcell i (by omega)
        rw [cellsOfV, Addr.add_lit] at hc'
        obtain ⟨_, hlen, hc⟩ := World.cells?_some hc'
        obtain ⟨e, rfl, hr⟩ := inVot hlen ht
        have c0 := hc 0 (by omega)
        have c1 := hc 1 (by omega)
        rw [Addr.add_lit] at c0 c1
        simp at c0 c1
        exact ⟨e, ⟨c0, c1⟩, hr⟩
      have inh : Inhabited Vot := ⟨nilVot⟩
      obtain ⟨D, hD⟩ := Deep.choose_lt each
      have hlt : b < W.heap.size := cell_lt (hD 0 (by omega)).1.1
      refine ⟨some ⟨b, off, none⟩, c, (List.range l).map D, by simpa using hcs, .inr ⟨b, off, rfl, hlt, fun i hi => ?_⟩, by simpa using hlm⟩
      simp at hi
      rw [show ((List.range l).map D).getD i nilVot = D i by simp [hi]]
      exact hD i hi
end Go.Proofs.Ytdgaimiggejleaa
