/-
  Options that came in.
-/
import Derived.Test.YtbckogojnjmjcabGreatDoorRi
import Derived.Test.YtbckogojnjmjcabGreatDoorQ2
namespace Go.Proofs.YtbckogojnjmjcabGreatDoor
open Go.ChangeShapes Go.WideShapes Go.ChangeAt Go.RowKit
set_option linter.unusedVariables false

theorem cellsOfCO : Tryz.prog.cellsOf 23 = 8 := by kernel_rfl
theorem cellsOfNO : Tryz.prog.cellsOf 25 = 17 := by kernel_rfl
theorem cellsOfWO : Tryz.prog.cellsOf 27 = 19 := by kernel_rfl
/-- Numbers in their range. -/
def InR (l : List Int) : Prop := ∀ n ∈ l, -9223372036854775808 ≤ n ∧ n ≤ 9223372036854775807
theorem lst3 {α : Type} {cs : List α} (h : cs.length = 3) : ∃ v0 v1 v2, cs = [v0, v1, v2] := by
  match cs, h with
  | [v0, v1, v2], _ => exact ⟨_, _, _, rfl⟩
theorem lst8 {α : Type} {cs : List α} (h : cs.length = 8) : ∃ v0 v1 v2 v3 v4 v5 v6 v7, cs = [v0, v1, v2, v3, v4, v5, v6, v7] := by
  match cs, h with
  | [v0, v1, v2, v3, v4, v5, v6, v7], _ => exact ⟨_, _, _, _, _, _, _, _, rfl⟩
theorem lst10 {α : Type} {cs : List α} (h : cs.length = 10) : ∃ v0 v1 v2 v3 v4 v5 v6 v7 v8 v9, cs = [v0, v1, v2, v3, v4, v5, v6, v7, v8, v9] := by
  match cs, h with
  | [v0, v1, v2, v3, v4, v5, v6, v7, v8, v9], _ => exact ⟨_, _, _, _, _, _, _, _, _, _, rfl⟩
theorem lst17 {α : Type} {cs : List α} (h : cs.length = 17) : ∃ v0 v1 v2 v3 v4 v5 v6 v7 v8 v9 v10 v11 v12 v13 v14 v15 v16, cs = [v0, v1, v2, v3, v4, v5, v6, v7, v8, v9, v10, v11, v12, v13, v14, v15, v16] := by
  match cs, h with
  | [v0, v1, v2, v3, v4, v5, v6, v7, v8, v9, v10, v11, v12, v13, v14, v15, v16], _ => exact ⟨_, _, _, _, _, _, _, _, _, _, _, _, _, _, _, _, _, rfl⟩
theorem lst19 {α : Type} {cs : List α} (h : cs.length = 19) : ∃ v0 v1 v2 v3 v4 v5 v6 v7 v8 v9 v10 v11 v12 v13 v14 v15 v16 v17 v18, cs = [v0, v1, v2, v3, v4, v5, v6, v7, v8, v9, v10, v11, v12, v13, v14, v15, v16, v17, v18] := by
  match cs, h with
  | [v0, v1, v2, v3, v4, v5, v6, v7, v8, v9, v10, v11, v12, v13, v14, v15, v16, v17, v18], _ => exact ⟨_, _, _, _, _, _, _, _, _, _, _, _, _, _, _, _, _, _, _, rfl⟩
theorem underCO : ∃ f0 f1 f2 f3 f4 f5 f6 f7 : Field, Tryz.prog.underlying 23 = some (.struct #[f0, f1, f2, f3, f4, f5, f6, f7]) ∧ (f0.offset = 0 ∧ f1.offset = 1 ∧ f2.offset = 2 ∧ f3.offset = 3 ∧ f4.offset = 4 ∧ f5.offset = 5 ∧ f6.offset = 6 ∧ f7.offset = 7) ∧ f0.type = 3 ∧ f1.type = 3 ∧ f2.type = 3 ∧ f3.type = 3 ∧ f4.type = 3 ∧ f5.type = 3 ∧ f6.type = 3 ∧ f7.type = 3 :=
  ⟨_, _, _, _, _, _, _, _, Tryz.underlying23, ⟨rfl, rfl, rfl, rfl, rfl, rfl, rfl, rfl⟩, rfl, rfl, rfl, rfl, rfl, rfl, rfl, rfl⟩
theorem underNO : ∃ f0 f1 f2 f3 f4 f5 f6 f7 f8 f9 : Field, Tryz.prog.underlying 25 = some (.struct #[f0, f1, f2, f3, f4, f5, f6, f7, f8, f9]) ∧ (f0.offset = 0 ∧ f1.offset = 8 ∧ f2.offset = 9 ∧ f3.offset = 10 ∧ f4.offset = 11 ∧ f5.offset = 12 ∧ f6.offset = 13 ∧ f7.offset = 14 ∧ f8.offset = 15 ∧ f9.offset = 16) ∧ f0.type = 23 ∧ f1.type = 3 ∧ f2.type = 3 ∧ f3.type = 3 ∧ f4.type = 3 ∧ f5.type = 3 ∧ f6.type = 3 ∧ f7.type = 3 ∧ f8.type = 3 ∧ f9.type = 3 :=
  ⟨_, _, _, _, _, _, _, _, _, _, Tryz.underlying25, ⟨rfl, rfl, rfl, rfl, rfl, rfl, rfl, rfl, rfl, rfl⟩, rfl, rfl, rfl, rfl, rfl, rfl, rfl, rfl, rfl, rfl⟩
theorem underWO : ∃ f0 f1 f2 : Field, Tryz.prog.underlying 27 = some (.struct #[f0, f1, f2]) ∧ (f0.offset = 0 ∧ f1.offset = 1 ∧ f2.offset = 2) ∧ f0.type = 3 ∧ f1.type = 3 ∧ f2.type = 25 :=
  ⟨_, _, _, Tryz.underlying27, ⟨rfl, rfl, rfl⟩, rfl, rfl, rfl⟩
set_option maxRecDepth 100000 in
theorem inCO {H : Type} {enc : TypeId × Value → H} {W : World} {n : Nat} {cs : List Value} {x : DataW H × List MemPlace} (hlen : cs.length = 8) (h : DataW.trod enc Tryz.prog W 0 (fun _ => true) true n 23 cs = some x) :
    ∃ l : List Int, l.length = 8 ∧ cs = l.map (Value.int .i64) ∧ InR l := by
  obtain ⟨f0, f1, f2, f3, f4, f5, f6, f7, hu, ⟨o0, o1, o2, o3, o4, o5, o6, o7⟩, t0, t1, t2, t3, t4, t5, t6, t7⟩ := underCO
  obtain ⟨xs, k, _, _, _, hxl, hf⟩ := DataW.trod_struct hu h
  obtain ⟨v0, v1, v2, v3, v4, v5, v6, v7, rfl⟩ := lst8 hlen
  obtain ⟨y0, y1, y2, y3, y4, y5, y6, y7, rfl⟩ := lst8 hxl
  have g0 := hf 0 f0 rfl
  rw [o0, t0, cellsOfI] at g0
  have g1 := hf 1 f1 rfl
  rw [o1, t1, cellsOfI] at g1
  have g2 := hf 2 f2 rfl
  rw [o2, t2, cellsOfI] at g2
  have g3 := hf 3 f3 rfl
  rw [o3, t3, cellsOfI] at g3
  have g4 := hf 4 f4 rfl
  rw [o4, t4, cellsOfI] at g4
  have g5 := hf 5 f5 rfl
  rw [o5, t5, cellsOfI] at g5
  have g6 := hf 6 f6 rfl
  rw [o6, t6, cellsOfI] at g6
  have g7 := hf 7 f7 rfl
  rw [o7, t7, cellsOfI] at g7
  simp at g0 g1 g2 g3 g4 g5 g6 g7
  obtain ⟨z0, e0, -, l0⟩ := DataW.trod_int Tryz.underlying3 g0
  simp at e0
  subst e0
  have b0 := bounds_i64 l0
  obtain ⟨z1, e1, -, l1⟩ := DataW.trod_int Tryz.underlying3 g1
  simp at e1
  subst e1
  have b1 := bounds_i64 l1
  obtain ⟨z2, e2, -, l2⟩ := DataW.trod_int Tryz.underlying3 g2
  simp at e2
  subst e2
  have b2 := bounds_i64 l2
  obtain ⟨z3, e3, -, l3⟩ := DataW.trod_int Tryz.underlying3 g3
  simp at e3
  subst e3
  have b3 := bounds_i64 l3
  obtain ⟨z4, e4, -, l4⟩ := DataW.trod_int Tryz.underlying3 g4
  simp at e4
  subst e4
  have b4 := bounds_i64 l4
  obtain ⟨z5, e5, -, l5⟩ := DataW.trod_int Tryz.underlying3 g5
  simp at e5
  subst e5
  have b5 := bounds_i64 l5
  obtain ⟨z6, e6, -, l6⟩ := DataW.trod_int Tryz.underlying3 g6
  simp at e6
  subst e6
  have b6 := bounds_i64 l6
  obtain ⟨z7, e7, -, l7⟩ := DataW.trod_int Tryz.underlying3 g7
  simp at e7
  subst e7
  have b7 := bounds_i64 l7
  refine ⟨[z0, z1, z2, z3, z4, z5, z6, z7], rfl, rfl, ?_⟩
  intro n hn
  simp only [List.mem_cons, List.not_mem_nil, or_false] at hn
  rcases hn with rfl | rfl | rfl | rfl | rfl | rfl | rfl | rfl
  · exact ⟨by omega, by omega⟩
  · exact ⟨by omega, by omega⟩
  · exact ⟨by omega, by omega⟩
  · exact ⟨by omega, by omega⟩
  · exact ⟨by omega, by omega⟩
  · exact ⟨by omega, by omega⟩
  · exact ⟨by omega, by omega⟩
  · exact ⟨by omega, by omega⟩
set_option maxRecDepth 100000 in
theorem inNO {H : Type} {enc : TypeId × Value → H} {W : World} {n : Nat} {cs : List Value} {x : DataW H × List MemPlace} (hlen : cs.length = 17) (h : DataW.trod enc Tryz.prog W 0 (fun _ => true) true n 25 cs = some x) :
    ∃ l : List Int, l.length = 17 ∧ cs = l.map (Value.int .i64) ∧ InR l := by
  obtain ⟨f0, f1, f2, f3, f4, f5, f6, f7, f8, f9, hu, ⟨o0, o1, o2, o3, o4, o5, o6, o7, o8, o9⟩, t0, t1, t2, t3, t4, t5, t6, t7, t8, t9⟩ := underNO
  obtain ⟨xs, k, _, _, _, hxl, hf⟩ := DataW.trod_struct hu h
  obtain ⟨v0, v1, v2, v3, v4, v5, v6, v7, v8, v9, v10, v11, v12, v13, v14, v15, v16, rfl⟩ := lst17 hlen
  obtain ⟨y0, y1, y2, y3, y4, y5, y6, y7, y8, y9, rfl⟩ := lst10 hxl
  have g0 := hf 0 f0 rfl
  rw [o0, t0, cellsOfCO] at g0
  have g1 := hf 1 f1 rfl
  rw [o1, t1, cellsOfI] at g1
  have g2 := hf 2 f2 rfl
  rw [o2, t2, cellsOfI] at g2
  have g3 := hf 3 f3 rfl
  rw [o3, t3, cellsOfI] at g3
  have g4 := hf 4 f4 rfl
  rw [o4, t4, cellsOfI] at g4
  have g5 := hf 5 f5 rfl
  rw [o5, t5, cellsOfI] at g5
  have g6 := hf 6 f6 rfl
  rw [o6, t6, cellsOfI] at g6
  have g7 := hf 7 f7 rfl
  rw [o7, t7, cellsOfI] at g7
  have g8 := hf 8 f8 rfl
  rw [o8, t8, cellsOfI] at g8
  have g9 := hf 9 f9 rfl
  rw [o9, t9, cellsOfI] at g9
  simp at g0 g1 g2 g3 g4 g5 g6 g7 g8 g9
  obtain ⟨l0, n0, e0, r0⟩ := inCO rfl g0
  obtain ⟨w0, w1, w2, w3, w4, w5, w6, w7, rfl⟩ := lst8 n0
  simp at e0
  obtain ⟨rfl, rfl, rfl, rfl, rfl, rfl, rfl, rfl⟩ := e0
  obtain ⟨z1, e1, -, l1⟩ := DataW.trod_int Tryz.underlying3 g1
  simp at e1
  subst e1
  have b1 := bounds_i64 l1
  obtain ⟨z2, e2, -, l2⟩ := DataW.trod_int Tryz.underlying3 g2
  simp at e2
  subst e2
  have b2 := bounds_i64 l2
  obtain ⟨z3, e3, -, l3⟩ := DataW.trod_int Tryz.underlying3 g3
  simp at e3
  subst e3
  have b3 := bounds_i64 l3
  obtain ⟨z4, e4, -, l4⟩ := DataW.trod_int Tryz.underlying3 g4
  simp at e4
  subst e4
  have b4 := bounds_i64 l4
  obtain ⟨z5, e5, -, l5⟩ := DataW.trod_int Tryz.underlying3 g5
  simp at e5
  subst e5
  have b5 := bounds_i64 l5
  obtain ⟨z6, e6, -, l6⟩ := DataW.trod_int Tryz.underlying3 g6
  simp at e6
  subst e6
  have b6 := bounds_i64 l6
  obtain ⟨z7, e7, -, l7⟩ := DataW.trod_int Tryz.underlying3 g7
  simp at e7
  subst e7
  have b7 := bounds_i64 l7
  obtain ⟨z8, e8, -, l8⟩ := DataW.trod_int Tryz.underlying3 g8
  simp at e8
  subst e8
  have b8 := bounds_i64 l8
  obtain ⟨z9, e9, -, l9⟩ := DataW.trod_int Tryz.underlying3 g9
  simp at e9
  subst e9
  have b9 := bounds_i64 l9
  refine ⟨[w0, w1, w2, w3, w4, w5, w6, w7, z1, z2, z3, z4, z5, z6, z7, z8, z9], rfl, rfl, ?_⟩
  intro n hn
  simp only [List.mem_cons, List.not_mem_nil, or_false] at hn
  rcases hn with rfl | rfl | rfl | rfl | rfl | rfl | rfl | rfl | rfl | rfl | rfl | rfl | rfl | rfl | rfl | rfl | rfl
  · exact r0 _ (by simp)
  · exact r0 _ (by simp)
  · exact r0 _ (by simp)
  · exact r0 _ (by simp)
  · exact r0 _ (by simp)
  · exact r0 _ (by simp)
  · exact r0 _ (by simp)
  · exact r0 _ (by simp)
  · exact ⟨by omega, by omega⟩
  · exact ⟨by omega, by omega⟩
  · exact ⟨by omega, by omega⟩
  · exact ⟨by omega, by omega⟩
  · exact ⟨by omega, by omega⟩
  · exact ⟨by omega, by omega⟩
  · exact ⟨by omega, by omega⟩
  · exact ⟨by omega, by omega⟩
  · exact ⟨by omega, by omega⟩
set_option maxRecDepth 100000 in
theorem inWO {H : Type} {enc : TypeId × Value → H} {W : World} {n : Nat} {cs : List Value} {x : DataW H × List MemPlace} (hlen : cs.length = 19) (h : DataW.trod enc Tryz.prog W 0 (fun _ => true) true n 27 cs = some x) :
    ∃ l : List Int, l.length = 19 ∧ cs = l.map (Value.int .i64) ∧ InR l := by
  obtain ⟨f0, f1, f2, hu, ⟨o0, o1, o2⟩, t0, t1, t2⟩ := underWO
  obtain ⟨xs, k, _, _, _, hxl, hf⟩ := DataW.trod_struct hu h
  obtain ⟨v0, v1, v2, v3, v4, v5, v6, v7, v8, v9, v10, v11, v12, v13, v14, v15, v16, v17, v18, rfl⟩ := lst19 hlen
  obtain ⟨y0, y1, y2, rfl⟩ := lst3 hxl
  have g0 := hf 0 f0 rfl
  rw [o0, t0, cellsOfI] at g0
  have g1 := hf 1 f1 rfl
  rw [o1, t1, cellsOfI] at g1
  have g2 := hf 2 f2 rfl
  rw [o2, t2, cellsOfNO] at g2
  simp at g0 g1 g2
  obtain ⟨z0, e0, -, l0⟩ := DataW.trod_int Tryz.underlying3 g0
  simp at e0
  subst e0
  have b0 := bounds_i64 l0
  obtain ⟨z1, e1, -, l1⟩ := DataW.trod_int Tryz.underlying3 g1
  simp at e1
  subst e1
  have b1 := bounds_i64 l1
  obtain ⟨l2, n2, e2, r2⟩ := inNO rfl g2
  obtain ⟨w0, w1, w2, w3, w4, w5, w6, w7, w8, w9, w10, w11, w12, w13, w14, w15, w16, rfl⟩ := lst17 n2
  simp at e2
  obtain ⟨rfl, rfl, rfl, rfl, rfl, rfl, rfl, rfl, rfl, rfl, rfl, rfl, rfl, rfl, rfl, rfl, rfl⟩ := e2
  refine ⟨[z0, z1, w0, w1, w2, w3, w4, w5, w6, w7, w8, w9, w10, w11, w12, w13, w14, w15, w16], rfl, rfl, ?_⟩
  intro n hn
  simp only [List.mem_cons, List.not_mem_nil, or_false] at hn
  rcases hn with rfl | rfl | rfl | rfl | rfl | rfl | rfl | rfl | rfl | rfl | rfl | rfl | rfl | rfl | rfl | rfl | rfl | rfl | rfl
  · exact ⟨by omega, by omega⟩
  · exact ⟨by omega, by omega⟩
  · exact r2 _ (by simp)
  · exact r2 _ (by simp)
  · exact r2 _ (by simp)
  · exact r2 _ (by simp)
  · exact r2 _ (by simp)
  · exact r2 _ (by simp)
  · exact r2 _ (by simp)
  · exact r2 _ (by simp)
  · exact r2 _ (by simp)
  · exact r2 _ (by simp)
  · exact r2 _ (by simp)
  · exact r2 _ (by simp)
  · exact r2 _ (by simp)
  · exact r2 _ (by simp)
  · exact r2 _ (by simp)
  · exact r2 _ (by simp)
  · exact r2 _ (by simp)
set_option maxRecDepth 100000 in
/-- Options among the arguments. -/
theorem inOpts_agg {H : Type} {enc : TypeId × Value → H} {W : World} {base n : Nat} {v : Value} {x : DataW H × List MemPlace} (hv : Value.okWide Tryz.prog W .any base 27 v) (h : DataW.trod enc Tryz.prog W 0 (fun _ => true) true n 27 v.cells.toList = some x) :
    ∃ l : List Int, v = .agg (intsV l) ∧ OpIn l := by
  obtain ⟨cs, rfl, hsz⟩ := okWide_struct Tryz.underlying27 hv
  rw [cellsOfWO] at hsz
  have h' : DataW.trod enc Tryz.prog W 0 (fun _ => true) true n 27 cs.toList = some x := by simpa [Value.cells] using h
  obtain ⟨l, hl, he, hr⟩ := inWO (by simpa using hsz) h'
  refine ⟨l, ?_, hl, hr⟩
  congr 1
  unfold intsV
  rw [← he]
end Go.Proofs.YtbckogojnjmjcabGreatDoor
