/-
  Operations that came in, as the row reads them.
-/
import Derived.Test.YtadajbdmlmickaaGreatDoorRini
import Derived.Test.YtadajbdmlmickaaGreatDoorFw
namespace Go.Proofs.YtadajbdmlmickaaGreatDoor
open Go.ChangeShapes Go.WideShapes Go.ChangeAt Go.RowKit
set_option linter.unusedVariables false

theorem cellsOf9 : Tryz.prog.cellsOf 9 = 1 := by kernel_rfl
theorem list5 {α : Type} {cs : List α} (h : cs.length = 5) : ∃ v0 v1 v2 v3 v4, cs = [v0, v1, v2, v3, v4] := by
  match cs, h with
  | [v0, v1, v2, v3, v4], _ => exact ⟨_, _, _, _, _, rfl⟩
theorem underP : ∃ f0 f1 f2 f3 f4 : Field, Tryz.prog.underlying 36 = some (.struct #[f0, f1, f2, f3, f4]) ∧ (f0.offset = 0 ∧ f1.offset = 1 ∧ f2.offset = 2 ∧ f3.offset = 3 ∧ f4.offset = 4) ∧ f0.type = 3 ∧ f1.type = 3 ∧ f2.type = 9 ∧ f3.type = 9 ∧ f4.type = 32 := ⟨_, _, _, _, _, Tryz.underlying36, ⟨rfl, rfl, rfl, rfl, rfl⟩, rfl, rfl, rfl, rfl, rfl⟩
theorem cellsOfP : Tryz.prog.cellsOf 36 = 5 := by kernel_rfl
theorem underQ : ∃ f0 f1 f2 f3 : Field, Tryz.prog.underlying 38 = some (.struct #[f0, f1, f2, f3]) ∧ (f0.offset = 0 ∧ f1.offset = 1 ∧ f2.offset = 2 ∧ f3.offset = 5) ∧ f0.type = 3 ∧ f1.type = 3 ∧ f2.type = 34 ∧ f3.type = 36 := ⟨_, _, _, _, Tryz.underlying38, ⟨rfl, rfl, rfl, rfl⟩, rfl, rfl, rfl, rfl⟩
theorem cellsOfQ : Tryz.prog.cellsOf 38 = 10 := by kernel_rfl

set_option maxRecDepth 100000 in
theorem inOp {H : Type} {enc : TypeId × Value → H} {W : World} {n : Nat} {cs : List Value} {x : DataW H × List MemPlace} (hlen : cs.length = 5) (h : DataW.trod enc Tryz.prog W 0 (fun _ => true) true n 36 cs = some x) :
    ∃ o : Opn, cs = [.int .i64 o.kd, .int .i64 o.n, .string ⟨o.nm.toArray⟩, .string ⟨o.to.toArray⟩, o.x] ∧ Sl W.heap.size W o.x o.b ∧ o.nm.length ≤ maxLen ∧ o.to.length ≤ maxLen ∧ o.n < 9223372036854775808 := by
  obtain ⟨f0, f1, f2, f3, f4, hu, ⟨o0, o1, o2, o3, o4⟩, t0, t1, t2, t3, t4⟩ := underP
  obtain ⟨xs, k, _, _, _, hxl, hf⟩ := DataW.trod_struct hu h
  obtain ⟨v0, v1, v2, v3, v4, rfl⟩ := list5 hlen
  obtain ⟨y0, y1, y2, y3, y4, rfl⟩ := list5 hxl
  have g0 := hf 0 f0 rfl
  rw [o0, t0, cellsOfI] at g0
  have g1 := hf 1 f1 rfl
  rw [o1, t1, cellsOfI] at g1
  have g2 := hf 2 f2 rfl
  rw [o2, t2, cellsOf9] at g2
  have g3 := hf 3 f3 rfl
  rw [o3, t3, cellsOf9] at g3
  have g4 := hf 4 f4 rfl
  rw [o4, t4, cellsOfB] at g4
  simp at g0 g1 g2 g3 g4
  obtain ⟨z0, e0, -, -⟩ := DataW.trod_int Tryz.underlying3 g0
  simp at e0
  subst e0
  obtain ⟨z1, e1, -, hw1⟩ := DataW.trod_int Tryz.underlying3 g1
  simp at e1
  subst e1
  obtain ⟨z2, e2, -, hl2⟩ := DataW.trod_string Tryz.underlying9 g2
  simp at e2
  subst e2
  obtain ⟨z3, e3, -, hl3⟩ := DataW.trod_string Tryz.underlying9 g3
  simp at e3
  subst e3
  obtain ⟨a4, k4, l, rfl, hs⟩ := inBytes g4
  refine ⟨⟨z0, z1, z2.data.toList, z3.data.toList, a4, k4, l⟩, by simp [Opn.x], hs, ?_, ?_, ?_⟩
  · show z2.data.toList.length ≤ _; rw [Array.length_toList]; exact hl2
  · show z3.data.toList.length ≤ _; rw [Array.length_toList]; exact hl3
  · have := bounds_i64 hw1
    show z1 < _
    omega
theorem op_cells {N : Nat} {W : World} {b o : Nat} {cs : List Value} {x : Opn} (he : cs = [.int .i64 x.kd, .int .i64 x.n, .string ⟨x.nm.toArray⟩, .string ⟨x.to.toArray⟩, x.x]) (hc : ∀ j, j < 5 → W.cell? ⟨b, o + j, none⟩ = cs[j]?) (hs : Sl N W x.x x.b ∧ x.nm.length ≤ maxLen ∧ x.to.length ≤ maxLen ∧ x.n < 9223372036854775808) : OpAt N W b o x := by
  subst he
  exact ⟨⟨hc 0 (by omega), hc 1 (by omega), hc 2 (by omega), hc 3 (by omega), hc 4 (by omega)⟩, hs⟩

set_option maxRecDepth 100000 in
theorem inOps4 {H : Type} {enc : TypeId × Value → H} {W : World} {n : Nat} {v : Value} {x : DataW H × List MemPlace} (h : DataW.trod enc Tryz.prog W 0 (fun _ => true) true n 66 [v] = some x) :
    ∃ (ea : Option Addr) (ec : Nat) (es : List Opn), v = .slice ea es.length ec ∧ OpsAt W.heap.size W ea es ∧ es.length ≤ 9223372036854775807 := by
  rcases Deep.open_slice Tryz.underlying66 h with ⟨hcs, _⟩ | ⟨x, l, c, m, n, E, Pl, hcs, _, hl, hm, hmm, hx, hcell⟩
  · simp at hcs
    exact ⟨none, 0, [], hcs, .inl rfl, Nat.zero_le _⟩
  · simp at hcs
    have hlm : l ≤ 9223372036854775807 := by have := hm; unfold maxLen at this; omega
    by_cases hz : l = 0
    · subst hz; exact ⟨some x, c, [], hcs, .inl rfl, Nat.zero_le _⟩
    · have hml : l ≤ m := by rw [hmm]; split <;> omega
      obtain ⟨b, off, spot⟩ := x
      have hspot : spot = none := by
        obtain ⟨cs', hc', -⟩ := hcell 0 (by omega)
        rw [cellsOfP] at hc'
        obtain ⟨_, hlen, hc⟩ := World.cells?_some hc'
        have h00 := hc 0 (by omega)
        rw [List.getElem?_eq_getElem (by omega)] at h00
        simpa [Addr.add] using World.cell?_spot h00
      subst hspot
      have each : ∀ i, i < l → ∃ e : Opn, OpAt W.heap.size W b (off + i * 5) e := by
        intro i hi
        obtain ⟨cs', hc', ht⟩ := hcell i (by omega)
        rw [cellsOfP, Addr.add_lit] at hc'
        obtain ⟨_, hlen, hc⟩ := World.cells?_some hc'
        obtain ⟨o, he, hs⟩ := inOp hlen ht
        exact ⟨o, op_cells he (fun j hj => by have := hc j hj; rwa [Addr.add_lit] at this) hs⟩
      have inh : Inhabited Opn := ⟨nilOp⟩
      obtain ⟨D, hD⟩ := Deep.choose_lt each
      have hlt : b < W.heap.size := cell_lt (hD 0 (by omega)).1.1
      refine ⟨some ⟨b, off, none⟩, c, (List.range l).map D, by simpa using hcs, .inr ⟨b, off, rfl, hlt, fun i hi => ?_⟩, by simpa using hlm⟩
      simp at hi
      rw [show ((List.range l).map D).getD i nilOp = D i by simp [hi]]
      exact hD i hi
theorem list10 {α : Type} {cs : List α} (h : cs.length = 10) : ∃ v0 v1 v2 v3 v4 v5 v6 v7 v8 v9, cs = [v0, v1, v2, v3, v4, v5, v6, v7, v8, v9] := by
  match cs, h with
  | [v0, v1, v2, v3, v4, v5, v6, v7, v8, v9], _ => exact ⟨_, _, _, _, _, _, _, _, _, _, rfl⟩
theorem list4 {α : Type} {cs : List α} (h : cs.length = 4) : ∃ v0 v1 v2 v3, cs = [v0, v1, v2, v3] := by
  match cs, h with
  | [v0, v1, v2, v3], _ => exact ⟨_, _, _, _, rfl⟩
set_option maxRecDepth 100000 in
theorem inSops {H : Type} {enc : TypeId × Value → H} {W : World} {n : Nat} {v : Value} {x : DataW H × List MemPlace} (h : DataW.trod enc Tryz.prog W 0 (fun _ => true) true n 22 [v] = some x) :
    ∃ (ea : Option Addr) (ec : Nat) (es : List Sop), v = .slice ea es.length ec ∧ SopsAt W.heap.size W ea es ∧ es.length ≤ 9223372036854775807 := by
  rcases Deep.open_slice Tryz.underlying22 h with ⟨hcs, _⟩ | ⟨x, l, c, m, n, E, Pl, hcs, _, hl, hm, hmm, hx, hcell⟩
  · simp at hcs
    exact ⟨none, 0, [], hcs, .inl rfl, Nat.zero_le _⟩
  · simp at hcs
    have hlm : l ≤ 9223372036854775807 := by have := hm; unfold maxLen at this; omega
    by_cases hz : l = 0
    · subst hz; exact ⟨some x, c, [], hcs, .inl rfl, Nat.zero_le _⟩
    · have hml : l ≤ m := by rw [hmm]; split <;> omega
      obtain ⟨b, off, spot⟩ := x
      have hspot : spot = none := by
        obtain ⟨cs', hc', -⟩ := hcell 0 (by omega)
        rw [cellsOfQ] at hc'
        obtain ⟨_, hlen, hc⟩ := World.cells?_some hc'
        have h00 := hc 0 (by omega)
        rw [List.getElem?_eq_getElem (by omega)] at h00
        simpa [Addr.add] using World.cell?_spot h00
      subst hspot
      have each : ∀ i, i < l → ∃ e : Sop, SopAt W.heap.size W b (off + i * 10) e := by
        intro i hi
        obtain ⟨cs', hc', ht⟩ := hcell i (by omega)
        rw [cellsOfQ, Addr.add_lit] at hc'
        obtain ⟨_, hlen, hc⟩ := World.cells?_some hc'
        obtain ⟨f0, f1, f2, f3, hu, ⟨o0, o1, o2, o3⟩, t0, t1, t2, t3⟩ := underQ
        obtain ⟨xs, k, _, _, _, hxl, hf⟩ := DataW.trod_struct hu ht
        obtain ⟨v0, v1, v2, v3, v4, v5, v6, v7, v8, v9, rfl⟩ := list10 hlen
        obtain ⟨y0, y1, y2, y3, rfl⟩ := list4 hxl
        have g0 := hf 0 f0 rfl
        rw [o0, t0, cellsOfI] at g0
        have g1 := hf 1 f1 rfl
        rw [o1, t1, cellsOfI] at g1
        have g2 := hf 2 f2 rfl
        rw [o2, t2, cellsOfO] at g2
        have g3 := hf 3 f3 rfl
        rw [o3, t3, cellsOfP] at g3
        simp at g0 g1 g2 g3
        obtain ⟨z0, e0, -, -⟩ := DataW.trod_int Tryz.underlying3 g0
        simp at e0
        subst e0
        obtain ⟨z1, e1, -, hw1⟩ := DataW.trod_int Tryz.underlying3 g1
        simp at e1
        subst e1
        obtain ⟨s, es, hs⟩ := inSnp (by rfl) g2
        obtain ⟨o, eo, ho⟩ := inOp (by rfl) g3
        have hb1 := bounds_i64 hw1
        have hcc : ∀ j, j < 10 → W.cell? ⟨b, off + i * 10 + j, none⟩ = [Value.int .i64 z0, .int .i64 z1, v2, v3, v4, v5, v6, v7, v8, v9][j]? := fun j hj => by have := hc j hj; rwa [Addr.add_lit] at this
        simp only [List.cons.injEq, and_true] at es
        obtain ⟨rfl, rfl, rfl⟩ := es
        refine ⟨⟨z0, z1, s, o⟩, ⟨hcc 0 (by omega), hcc 1 (by omega)⟩, ⟨⟨hcc 2 (by omega), hcc 3 (by omega), hcc 4 (by omega)⟩, hs⟩, op_cells eo (fun j hj => ?_) ho, by show _ ≤ z1; omega, by show z1 ≤ _; omega⟩
        have := hcc (5 + j) (by omega)
        rw [show off + i * 10 + 5 + j = off + i * 10 + (5 + j) by omega, this]
        have hj5 : j = 0 ∨ j = 1 ∨ j = 2 ∨ j = 3 ∨ j = 4 := by omega
        rcases hj5 with rfl | rfl | rfl | rfl | rfl <;> rfl
      have inh : Inhabited Sop := ⟨nilSop⟩
      obtain ⟨D, hD⟩ := Deep.choose_lt each
      have hlt : b < W.heap.size := cell_lt (hD 0 (by omega)).1.1
      refine ⟨some ⟨b, off, none⟩, c, (List.range l).map D, by simpa using hcs, .inr ⟨b, off, rfl, hlt, fun i hi => ?_⟩, by simpa using hlm⟩
      simp at hi
      rw [show ((List.range l).map D).getD i nilSop = D i by simp [hi]]
      exact hD i hi
end Go.Proofs.YtadajbdmlmickaaGreatDoor
