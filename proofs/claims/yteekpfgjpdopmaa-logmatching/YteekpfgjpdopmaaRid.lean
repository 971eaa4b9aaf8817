/-
  Deeds that came in.
-/
import Derived.Test.YteekpfgjpdopmaaRin
namespace Go.Proofs.Yteekpfgjpdopmaa
open Go.ChangeShapes Go.WideShapes Go.ChangeAt Go.RowKit
set_option linter.unusedVariables false

/-- One that came in. -/
structure Deed where
  kd : Int
  of : Int
  to : Int
  n : Int
  m : Int
def nilDeed : Deed := ⟨0, 0, 0, 0, 0⟩
def DeeAt (W : World) (b o : Nat) (x : Deed) : Prop :=
  (W.cell? ⟨b, o, none⟩ = some (.int .i64 x.kd) ∧ W.cell? ⟨b, o + 1, none⟩ = some (.int .i64 x.of) ∧ W.cell? ⟨b, o + 2, none⟩ = some (.int .i64 x.to) ∧ W.cell? ⟨b, o + 3, none⟩ = some (.int .i64 x.n) ∧ W.cell? ⟨b, o + 4, none⟩ = some (.int .i64 x.m)) ∧ In64 x.kd ∧ In64 x.of ∧ In64 x.to ∧ In64 x.n ∧ In64 x.m
def DeeAts (N : Nat) (W : World) (a : Option Addr) (l : List Deed) : Prop :=
  l = [] ∨ ∃ b off, a = some ⟨b, off, none⟩ ∧ b < N ∧ ∀ i, i < l.length → DeeAt W b (off + i * 5) (l.getD i nilDeed)
theorem DeeAt.below {N : Nat} {w w' : World} {b o : Nat} {x : Deed} (h : DeeAt w b o x) (hb : b < N) (hB : Below N w w') : DeeAt w' b o x := by
  obtain ⟨⟨h0, h1, h2, h3, h4⟩, r⟩ := h
  exact ⟨⟨(hB.cell (p := ⟨b, o, none⟩) hb).trans h0, (hB.cell (p := ⟨b, o + 1, none⟩) hb).trans h1, (hB.cell (p := ⟨b, o + 2, none⟩) hb).trans h2, (hB.cell (p := ⟨b, o + 3, none⟩) hb).trans h3, (hB.cell (p := ⟨b, o + 4, none⟩) hb).trans h4⟩, r⟩
theorem DeeAts.at {N : Nat} {w : World} {a : Option Addr} {l : List Deed} (h : DeeAts N w a l) {i : Nat} (hi : i < l.length) : ∃ b off, a = some ⟨b, off, none⟩ ∧ b < N ∧ DeeAt w b (off + i * 5) (l.getD i nilDeed) := by
  rcases h with rfl | ⟨b, off, ha, hb, h⟩
  · simp at hi
  · exact ⟨b, off, ha, hb, h i hi⟩
theorem cellsOfD5 : Try.prog.cellsOf 70 = 5 := by kernel_rfl
theorem listDeed {α : Type} {cs : List α} (h : cs.length = 5) : ∃ v0 v1 v2 v3 v4, cs = [v0, v1, v2, v3, v4] := by
  match cs, h with
  | [v0, v1, v2, v3, v4], _ => exact ⟨_, _, _, _, _, rfl⟩
theorem underDeed : ∃ f0 f1 f2 f3 f4 : Field, Try.prog.underlying 70 = some (.struct #[f0, f1, f2, f3, f4]) ∧ (f0.offset = 0 ∧ f1.offset = 1 ∧ f2.offset = 2 ∧ f3.offset = 3 ∧ f4.offset = 4) ∧ f0.type = 3 ∧ f1.type = 3 ∧ f2.type = 3 ∧ f3.type = 3 ∧ f4.type = 3 := ⟨_, _, _, _, _, Try.underlying70, ⟨rfl, rfl, rfl, rfl, rfl⟩, rfl, rfl, rfl, rfl, rfl⟩

set_option maxRecDepth 100000 in
theorem inDeed {H : Type} {enc : TypeId × Value → H} {W : World} {n : Nat} {cs : List Value} {x : DataW H × List MemPlace} (hlen : cs.length = 5) (h : DataW.trod enc Try.prog W 0 (fun _ => true) true n 70 cs = some x) :
    ∃ x : Deed, cs = [.int .i64 x.kd, .int .i64 x.of, .int .i64 x.to, .int .i64 x.n, .int .i64 x.m] ∧ In64 x.kd ∧ In64 x.of ∧ In64 x.to ∧ In64 x.n ∧ In64 x.m := by
  obtain ⟨f0, f1, f2, f3, f4, hu, ⟨o0, o1, o2, o3, o4⟩, t0, t1, t2, t3, t4⟩ := underDeed
  obtain ⟨xs, k, _, _, _, hxl, hf⟩ := DataW.trod_struct hu h
  obtain ⟨v0, v1, v2, v3, v4, rfl⟩ := listDeed hlen
  obtain ⟨y0, y1, y2, y3, y4, rfl⟩ := listDeed hxl
  have g0 := hf 0 f0 rfl
  rw [o0, t0, cellsOfI] at g0
  have g1 := hf 1 f1 rfl
  rw [o1, t1, cellsOfI] at g1
  have g2 := hf 2 f2 rfl
  rw [o2, t2, cellsOfI] at g2
  have g3 := hf 3 f3 rfl
  rw [o3, t3, cellsOfI] at g3
  have g4 := hf 4 f4 rfl
  rw [o4, t4, cellsOfI] at g4
  simp at g0 g1 g2 g3 g4
  obtain ⟨z0, e0, -, hw0⟩ := DataW.trod_int Try.underlying3 g0
  simp at e0
  subst e0
  have b0 := bounds_i64 hw0
  obtain ⟨z1, e1, -, hw1⟩ := DataW.trod_int Try.underlying3 g1
  simp at e1
  subst e1
  have b1 := bounds_i64 hw1
  obtain ⟨z2, e2, -, hw2⟩ := DataW.trod_int Try.underlying3 g2
  simp at e2
  subst e2
  have b2 := bounds_i64 hw2
  obtain ⟨z3, e3, -, hw3⟩ := DataW.trod_int Try.underlying3 g3
  simp at e3
  subst e3
  have b3 := bounds_i64 hw3
  obtain ⟨z4, e4, -, hw4⟩ := DataW.trod_int Try.underlying3 g4
  simp at e4
  subst e4
  have b4 := bounds_i64 hw4
  exact ⟨⟨z0, z1, z2, z3, z4⟩, rfl, ⟨by show _ ≤ z0; omega, by show z0 ≤ _; omega⟩, ⟨by show _ ≤ z1; omega, by show z1 ≤ _; omega⟩, ⟨by show _ ≤ z2; omega, by show z2 ≤ _; omega⟩, ⟨by show _ ≤ z3; omega, by show z3 ≤ _; omega⟩, ⟨by show _ ≤ z4; omega, by show z4 ≤ _; omega⟩⟩

set_option maxRecDepth 100000 in
theorem inDeeds {H : Type} {enc : TypeId × Value → H} {W : World} {n : Nat} {v : Value} {x : DataW H × List MemPlace} (h : DataW.trod enc Try.prog W 0 (fun _ => true) true n 67 [v] = some x) :
    ∃ (ea : Option Addr) (ec : Nat) (es : List Deed), v = .slice ea es.length ec ∧ DeeAts W.heap.size W ea es ∧ es.length ≤ 9223372036854775807 := by
  rcases Deep.open_slice Try.underlying67 h with ⟨hcs, _⟩ | ⟨x, l, c, m, n, E, Pl, hcs, _, hl, hm, hmm, hx, hcell⟩
  · simp at hcs
    exact ⟨none, 0, [], hcs, .inl rfl, Nat.zero_le _⟩
  · simp at hcs
    have hlm : l ≤ 9223372036854775807 := by have := hm; unfold maxLen at this; omega
    by_cases hz : l = 0
    · subst hz; exact ⟨some x, c, [], hcs, .inl rfl, Nat.zero_le _⟩
    · have hml : l ≤ m := by rw [hmm]; split <;> omega
      obtain ⟨b, off, spot⟩ := x
      have hspot : spot = none := by
        obtain ⟨cs', hc', -⟩ := hcell 0 (by omega)
        rw [cellsOfD5] at hc'
        obtain ⟨_, hlen, hc⟩ := World.cells?_some hc'
        have h00 := hc 0 (by omega)
        rw [List.getElem?_eq_getElem (by omega)] at h00
        simpa [Addr.add] using World.cell?_spot h00
      subst hspot
      have each : ∀ i, i < l → ∃ e : Deed, DeeAt W b (off + i * 5) e := by
        intro i hi
        obtain ⟨cs', hc', ht⟩ := hcell i (by omega)
        rw [cellsOfD5, Addr.add_lit] at hc'
        obtain ⟨_, hlen, hc⟩ := World.cells?_some hc'
        obtain ⟨e, rfl, hr⟩ := inDeed hlen ht
        have c0 := hc 0 (by omega)
        have c1 := hc 1 (by omega)
        have c2 := hc 2 (by omega)
        have c3 := hc 3 (by omega)
        have c4 := hc 4 (by omega)
        rw [Addr.add_lit] at c0 c1 c2 c3 c4
        simp at c0 c1 c2 c3 c4
        exact ⟨e, ⟨c0, c1, c2, c3, c4⟩, hr⟩
      have inh : Inhabited Deed := ⟨nilDeed⟩
      obtain ⟨D, hD⟩ := Deep.choose_lt each
      have hlt : b < W.heap.size := cell_lt (hD 0 (by omega)).1.1
      refine ⟨some ⟨b, off, none⟩, c, (List.range l).map D, by simpa using hcs, .inr ⟨b, off, rfl, hlt, fun i hi => ?_⟩, by simpa using hlm⟩
      simp at hi
      rw [show ((List.range l).map D).getD i nilDeed = D i by simp [hi]]
      exact hD i hi
end Go.Proofs.Yteekpfgjpdopmaa
