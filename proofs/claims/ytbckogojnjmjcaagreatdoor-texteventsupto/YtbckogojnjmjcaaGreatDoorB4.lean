/-
  Structs of nine and of eleven cells; the form with a first word.
-/
import Derived.Test.YtbckogojnjmjcaaGreatDoorB3
import Derived.Test.YtbckogojnjmjcaaGreatDoorFw
namespace Go.Proofs.YtbckogojnjmjcaaGreatDoor
open Go.RowKit Go.Shelf

theorem cells9 {w : World} {b : Nat} {t : TypeId} {x0 x1 x2 x3 x4 x5 x6 x7 x8 : Value} (h : w.heap[b]? = some (.cells #[x0, x1, x2, x3, x4, x5, x6, x7, x8] t (0, 0))) :
    (w.cell? ⟨b, 0, none⟩ = some x0 ∧ w.cell? ⟨b, 1, none⟩ = some x1 ∧ w.cell? ⟨b, 2, none⟩ = some x2 ∧ w.cell? ⟨b, 3, none⟩ = some x3 ∧ w.cell? ⟨b, 4, none⟩ = some x4 ∧ w.cell? ⟨b, 5, none⟩ = some x5 ∧ w.cell? ⟨b, 6, none⟩ = some x6 ∧ w.cell? ⟨b, 7, none⟩ = some x7 ∧ w.cell? ⟨b, 8, none⟩ = some x8) ∧ ∀ o, w.frozen? ⟨b, o, none⟩ = false := by
  refine ⟨⟨?_, ?_, ?_, ?_, ?_, ?_, ?_, ?_, ?_⟩, ?_⟩
  all_goals (first | (simp only [World.cell?, h]; rfl) | skip)
  intro o
  simp [World.frozen?, h]
theorem set9 {w : World} {B : Nat} {x0 x1 x2 x3 x4 x5 x6 x7 x8 : Value} {t : TypeId} (h : w.heap[B]? = some (.cells #[x0, x1, x2, x3, x4, x5, x6, x7, x8] t (0, 0))) (y0 y1 y2 y3 y4 y5 y6 y7 y8 : Value) :
    (((((((((w.setCell ⟨B, 0, none⟩ y0).setCell ⟨B, 1, none⟩ y1).setCell ⟨B, 2, none⟩ y2).setCell ⟨B, 3, none⟩ y3).setCell ⟨B, 4, none⟩ y4).setCell ⟨B, 5, none⟩ y5).setCell ⟨B, 6, none⟩ y6).setCell ⟨B, 7, none⟩ y7).setCell ⟨B, 8, none⟩ y8).heap[B]? = some (.cells #[y0, y1, y2, y3, y4, y5, y6, y7, y8] t (0, 0)) := by
  have h0 : (w.setCell ⟨B, 0, none⟩ y0).heap[B]? = some (.cells #[y0, x1, x2, x3, x4, x5, x6, x7, x8] t (0, 0)) := heap_set h 0 y0
  have h1 : ((w.setCell ⟨B, 0, none⟩ y0).setCell ⟨B, 1, none⟩ y1).heap[B]? = some (.cells #[y0, y1, x2, x3, x4, x5, x6, x7, x8] t (0, 0)) := heap_set h0 1 y1
  have h2 : (((w.setCell ⟨B, 0, none⟩ y0).setCell ⟨B, 1, none⟩ y1).setCell ⟨B, 2, none⟩ y2).heap[B]? = some (.cells #[y0, y1, y2, x3, x4, x5, x6, x7, x8] t (0, 0)) := heap_set h1 2 y2
  have h3 : ((((w.setCell ⟨B, 0, none⟩ y0).setCell ⟨B, 1, none⟩ y1).setCell ⟨B, 2, none⟩ y2).setCell ⟨B, 3, none⟩ y3).heap[B]? = some (.cells #[y0, y1, y2, y3, x4, x5, x6, x7, x8] t (0, 0)) := heap_set h2 3 y3
  have h4 : (((((w.setCell ⟨B, 0, none⟩ y0).setCell ⟨B, 1, none⟩ y1).setCell ⟨B, 2, none⟩ y2).setCell ⟨B, 3, none⟩ y3).setCell ⟨B, 4, none⟩ y4).heap[B]? = some (.cells #[y0, y1, y2, y3, y4, x5, x6, x7, x8] t (0, 0)) := heap_set h3 4 y4
  have h5 : ((((((w.setCell ⟨B, 0, none⟩ y0).setCell ⟨B, 1, none⟩ y1).setCell ⟨B, 2, none⟩ y2).setCell ⟨B, 3, none⟩ y3).setCell ⟨B, 4, none⟩ y4).setCell ⟨B, 5, none⟩ y5).heap[B]? = some (.cells #[y0, y1, y2, y3, y4, y5, x6, x7, x8] t (0, 0)) := heap_set h4 5 y5
  have h6 : (((((((w.setCell ⟨B, 0, none⟩ y0).setCell ⟨B, 1, none⟩ y1).setCell ⟨B, 2, none⟩ y2).setCell ⟨B, 3, none⟩ y3).setCell ⟨B, 4, none⟩ y4).setCell ⟨B, 5, none⟩ y5).setCell ⟨B, 6, none⟩ y6).heap[B]? = some (.cells #[y0, y1, y2, y3, y4, y5, y6, x7, x8] t (0, 0)) := heap_set h5 6 y6
  have h7 : ((((((((w.setCell ⟨B, 0, none⟩ y0).setCell ⟨B, 1, none⟩ y1).setCell ⟨B, 2, none⟩ y2).setCell ⟨B, 3, none⟩ y3).setCell ⟨B, 4, none⟩ y4).setCell ⟨B, 5, none⟩ y5).setCell ⟨B, 6, none⟩ y6).setCell ⟨B, 7, none⟩ y7).heap[B]? = some (.cells #[y0, y1, y2, y3, y4, y5, y6, y7, x8] t (0, 0)) := heap_set h6 7 y7
  have h8 : (((((((((w.setCell ⟨B, 0, none⟩ y0).setCell ⟨B, 1, none⟩ y1).setCell ⟨B, 2, none⟩ y2).setCell ⟨B, 3, none⟩ y3).setCell ⟨B, 4, none⟩ y4).setCell ⟨B, 5, none⟩ y5).setCell ⟨B, 6, none⟩ y6).setCell ⟨B, 7, none⟩ y7).setCell ⟨B, 8, none⟩ y8).heap[B]? = some (.cells #[y0, y1, y2, y3, y4, y5, y6, y7, y8] t (0, 0)) := heap_set h7 8 y8
  exact h8
theorem out9 {X : Nat → Prop} {w : World} {B : Nat} (hX : X B) (y0 y1 y2 y3 y4 y5 y6 y7 y8 : Value) : Out X w (((((((((w.setCell ⟨B, 0, none⟩ y0).setCell ⟨B, 1, none⟩ y1).setCell ⟨B, 2, none⟩ y2).setCell ⟨B, 3, none⟩ y3).setCell ⟨B, 4, none⟩ y4).setCell ⟨B, 5, none⟩ y5).setCell ⟨B, 6, none⟩ y6).setCell ⟨B, 7, none⟩ y7).setCell ⟨B, 8, none⟩ y8) :=
  (((((((((Out.refl X w).put hX).put hX).put hX).put hX).put hX).put hX).put hX).put hX).put hX
theorem results_Ab {fn : Func} {t t2 : Tmp} (h : fn.results = #[.cell t 34, .tmp t2]) (tmps : Array Value) (w : World) (B : Nat) {x0 x1 x2 x3 x4 x5 x6 x7 x8 y : Value} (ht : tmps.getD t undef = .pointer (some ⟨B, 0, none⟩)) (hy : tmps.getD t2 undef = y) (hb : w.heap[B]? = some (.cells #[x0, x1, x2, x3, x4, x5, x6, x7, x8] 34 (0, 0))) :
    (results fn tmps).run Tryz.prog w = .ok (.tuple #[.agg #[x0, x1, x2, x3, x4, x5, x6, x7, x8], y]) w := by
  obtain ⟨⟨c0, c1, c2, c3, c4, c5, c6, c7, c8⟩, -⟩ := cells9 hb
  have ht' : tmps[t]?.getD undef = .pointer (some ⟨B, 0, none⟩) := by rw [← Array.getD_eq_getD_getElem?]; exact ht
  have hy' : tmps[t2]?.getD undef = y := by rw [← Array.getD_eq_getD_getElem?]; exact hy
  simp [results, h, ht', hy', asAddr, loadVar, c0, c1, c2, c3, c4, c5, c6, c7, c8, go_sem]
theorem cells11 {w : World} {b : Nat} {t : TypeId} {x0 x1 x2 x3 x4 x5 x6 x7 x8 x9 x10 : Value} (h : w.heap[b]? = some (.cells #[x0, x1, x2, x3, x4, x5, x6, x7, x8, x9, x10] t (0, 0))) :
    (w.cell? ⟨b, 0, none⟩ = some x0 ∧ w.cell? ⟨b, 1, none⟩ = some x1 ∧ w.cell? ⟨b, 2, none⟩ = some x2 ∧ w.cell? ⟨b, 3, none⟩ = some x3 ∧ w.cell? ⟨b, 4, none⟩ = some x4 ∧ w.cell? ⟨b, 5, none⟩ = some x5 ∧ w.cell? ⟨b, 6, none⟩ = some x6 ∧ w.cell? ⟨b, 7, none⟩ = some x7 ∧ w.cell? ⟨b, 8, none⟩ = some x8 ∧ w.cell? ⟨b, 9, none⟩ = some x9 ∧ w.cell? ⟨b, 10, none⟩ = some x10) ∧ ∀ o, w.frozen? ⟨b, o, none⟩ = false := by
  refine ⟨⟨?_, ?_, ?_, ?_, ?_, ?_, ?_, ?_, ?_, ?_, ?_⟩, ?_⟩
  all_goals (first | (simp only [World.cell?, h]; rfl) | skip)
  intro o
  simp [World.frozen?, h]
theorem set11 {w : World} {B : Nat} {x0 x1 x2 x3 x4 x5 x6 x7 x8 x9 x10 : Value} {t : TypeId} (h : w.heap[B]? = some (.cells #[x0, x1, x2, x3, x4, x5, x6, x7, x8, x9, x10] t (0, 0))) (y0 y1 y2 y3 y4 y5 y6 y7 y8 y9 y10 : Value) :
    (((((((((((w.setCell ⟨B, 0, none⟩ y0).setCell ⟨B, 1, none⟩ y1).setCell ⟨B, 2, none⟩ y2).setCell ⟨B, 3, none⟩ y3).setCell ⟨B, 4, none⟩ y4).setCell ⟨B, 5, none⟩ y5).setCell ⟨B, 6, none⟩ y6).setCell ⟨B, 7, none⟩ y7).setCell ⟨B, 8, none⟩ y8).setCell ⟨B, 9, none⟩ y9).setCell ⟨B, 10, none⟩ y10).heap[B]? = some (.cells #[y0, y1, y2, y3, y4, y5, y6, y7, y8, y9, y10] t (0, 0)) := by
  have h0 : (w.setCell ⟨B, 0, none⟩ y0).heap[B]? = some (.cells #[y0, x1, x2, x3, x4, x5, x6, x7, x8, x9, x10] t (0, 0)) := heap_set h 0 y0
  have h1 : ((w.setCell ⟨B, 0, none⟩ y0).setCell ⟨B, 1, none⟩ y1).heap[B]? = some (.cells #[y0, y1, x2, x3, x4, x5, x6, x7, x8, x9, x10] t (0, 0)) := heap_set h0 1 y1
  have h2 : (((w.setCell ⟨B, 0, none⟩ y0).setCell ⟨B, 1, none⟩ y1).setCell ⟨B, 2, none⟩ y2).heap[B]? = some (.cells #[y0, y1, y2, x3, x4, x5, x6, x7, x8, x9, x10] t (0, 0)) := heap_set h1 2 y2
  have h3 : ((((w.setCell ⟨B, 0, none⟩ y0).setCell ⟨B, 1, none⟩ y1).setCell ⟨B, 2, none⟩ y2).setCell ⟨B, 3, none⟩ y3).heap[B]? = some (.cells #[y0, y1, y2, y3, x4, x5, x6, x7, x8, x9, x10] t (0, 0)) := heap_set h2 3 y3
  have h4 : (((((w.setCell ⟨B, 0, none⟩ y0).setCell ⟨B, 1, none⟩ y1).setCell ⟨B, 2, none⟩ y2).setCell ⟨B, 3, none⟩ y3).setCell ⟨B, 4, none⟩ y4).heap[B]? = some (.cells #[y0, y1, y2, y3, y4, x5, x6, x7, x8, x9, x10] t (0, 0)) := heap_set h3 4 y4
  have h5 : ((((((w.setCell ⟨B, 0, none⟩ y0).setCell ⟨B, 1, none⟩ y1).setCell ⟨B, 2, none⟩ y2).setCell ⟨B, 3, none⟩ y3).setCell ⟨B, 4, none⟩ y4).setCell ⟨B, 5, none⟩ y5).heap[B]? = some (.cells #[y0, y1, y2, y3, y4, y5, x6, x7, x8, x9, x10] t (0, 0)) := heap_set h4 5 y5
  have h6 : (((((((w.setCell ⟨B, 0, none⟩ y0).setCell ⟨B, 1, none⟩ y1).setCell ⟨B, 2, none⟩ y2).setCell ⟨B, 3, none⟩ y3).setCell ⟨B, 4, none⟩ y4).setCell ⟨B, 5, none⟩ y5).setCell ⟨B, 6, none⟩ y6).heap[B]? = some (.cells #[y0, y1, y2, y3, y4, y5, y6, x7, x8, x9, x10] t (0, 0)) := heap_set h5 6 y6
  have h7 : ((((((((w.setCell ⟨B, 0, none⟩ y0).setCell ⟨B, 1, none⟩ y1).setCell ⟨B, 2, none⟩ y2).setCell ⟨B, 3, none⟩ y3).setCell ⟨B, 4, none⟩ y4).setCell ⟨B, 5, none⟩ y5).setCell ⟨B, 6, none⟩ y6).setCell ⟨B, 7, none⟩ y7).heap[B]? = some (.cells #[y0, y1, y2, y3, y4, y5, y6, y7, x8, x9, x10] t (0, 0)) := heap_set h6 7 y7
  have h8 : (((((((((w.setCell ⟨B, 0, none⟩ y0).setCell ⟨B, 1, none⟩ y1).setCell ⟨B, 2, none⟩ y2).setCell ⟨B, 3, none⟩ y3).setCell ⟨B, 4, none⟩ y4).setCell ⟨B, 5, none⟩ y5).setCell ⟨B, 6, none⟩ y6).setCell ⟨B, 7, none⟩ y7).setCell ⟨B, 8, none⟩ y8).heap[B]? = some (.cells #[y0, y1, y2, y3, y4, y5, y6, y7, y8, x9, x10] t (0, 0)) := heap_set h7 8 y8
  have h9 : ((((((((((w.setCell ⟨B, 0, none⟩ y0).setCell ⟨B, 1, none⟩ y1).setCell ⟨B, 2, none⟩ y2).setCell ⟨B, 3, none⟩ y3).setCell ⟨B, 4, none⟩ y4).setCell ⟨B, 5, none⟩ y5).setCell ⟨B, 6, none⟩ y6).setCell ⟨B, 7, none⟩ y7).setCell ⟨B, 8, none⟩ y8).setCell ⟨B, 9, none⟩ y9).heap[B]? = some (.cells #[y0, y1, y2, y3, y4, y5, y6, y7, y8, y9, x10] t (0, 0)) := heap_set h8 9 y9
  have h10 : (((((((((((w.setCell ⟨B, 0, none⟩ y0).setCell ⟨B, 1, none⟩ y1).setCell ⟨B, 2, none⟩ y2).setCell ⟨B, 3, none⟩ y3).setCell ⟨B, 4, none⟩ y4).setCell ⟨B, 5, none⟩ y5).setCell ⟨B, 6, none⟩ y6).setCell ⟨B, 7, none⟩ y7).setCell ⟨B, 8, none⟩ y8).setCell ⟨B, 9, none⟩ y9).setCell ⟨B, 10, none⟩ y10).heap[B]? = some (.cells #[y0, y1, y2, y3, y4, y5, y6, y7, y8, y9, y10] t (0, 0)) := heap_set h9 10 y10
  exact h10
theorem out11 {X : Nat → Prop} {w : World} {B : Nat} (hX : X B) (y0 y1 y2 y3 y4 y5 y6 y7 y8 y9 y10 : Value) : Out X w (((((((((((w.setCell ⟨B, 0, none⟩ y0).setCell ⟨B, 1, none⟩ y1).setCell ⟨B, 2, none⟩ y2).setCell ⟨B, 3, none⟩ y3).setCell ⟨B, 4, none⟩ y4).setCell ⟨B, 5, none⟩ y5).setCell ⟨B, 6, none⟩ y6).setCell ⟨B, 7, none⟩ y7).setCell ⟨B, 8, none⟩ y8).setCell ⟨B, 9, none⟩ y9).setCell ⟨B, 10, none⟩ y10) :=
  (((((((((((Out.refl X w).put hX).put hX).put hX).put hX).put hX).put hX).put hX).put hX).put hX).put hX).put hX
theorem results_Fb {fn : Func} {t t2 : Tmp} (h : fn.results = #[.cell t 107, .tmp t2]) (tmps : Array Value) (w : World) (B : Nat) {x0 x1 x2 x3 x4 x5 x6 x7 x8 x9 x10 y : Value} (ht : tmps.getD t undef = .pointer (some ⟨B, 0, none⟩)) (hy : tmps.getD t2 undef = y) (hb : w.heap[B]? = some (.cells #[x0, x1, x2, x3, x4, x5, x6, x7, x8, x9, x10] 107 (0, 0))) :
    (results fn tmps).run Tryz.prog w = .ok (.tuple #[.agg #[x0, x1, x2, x3, x4, x5, x6, x7, x8, x9, x10], y]) w := by
  obtain ⟨⟨c0, c1, c2, c3, c4, c5, c6, c7, c8, c9, c10⟩, -⟩ := cells11 hb
  have ht' : tmps[t]?.getD undef = .pointer (some ⟨B, 0, none⟩) := by rw [← Array.getD_eq_getD_getElem?]; exact ht
  have hy' : tmps[t2]?.getD undef = y := by rw [← Array.getD_eq_getD_getElem?]; exact hy
  simp [results, h, ht', hy', asAddr, loadVar, c0, c1, c2, c3, c4, c5, c6, c7, c8, c9, c10, go_sem]
theorem results_A {fn : Func} {t : Tmp} (h : fn.results = #[.cell t 34]) (tmps : Array Value) (w : World) (B : Nat) {x0 x1 x2 x3 x4 x5 x6 x7 x8 : Value} (ht : tmps.getD t undef = .pointer (some ⟨B, 0, none⟩)) (hb : w.heap[B]? = some (.cells #[x0, x1, x2, x3, x4, x5, x6, x7, x8] 34 (0, 0))) :
    (results fn tmps).run Tryz.prog w = .ok (.agg #[x0, x1, x2, x3, x4, x5, x6, x7, x8]) w := by
  obtain ⟨⟨c0, c1, c2, c3, c4, c5, c6, c7, c8⟩, -⟩ := cells9 hb
  have ht' : tmps[t]?.getD undef = .pointer (some ⟨B, 0, none⟩) := by rw [← Array.getD_eq_getD_getElem?]; exact ht
  simp [results, h, ht', asAddr, loadVar, c0, c1, c2, c3, c4, c5, c6, c7, c8, go_sem]
/-- A form as a value: its places lie at pb. -/
def Fo.cs (f : Fo) (pb : Nat) : Array Value := #[.string ⟨f.word.toArray⟩, .int .i64 f.kind, .int .i64 0, .int .i64 0, .int .i64 0, .int .i64 f.m, .int .i64 f.op, .string ⟨#[]⟩, .string ⟨#[]⟩, .string ⟨#[]⟩, .slice (some ⟨pb, 0, none⟩) f.pl.length f.pl.length]
def fo0 : Array Value := #[.string ⟨#[]⟩, .int .i64 0, .int .i64 0, .int .i64 0, .int .i64 0, .int .i64 0, .int .i64 0, .string ⟨#[]⟩, .string ⟨#[]⟩, .string ⟨#[]⟩, .slice none 0 0]
/-- Places in a block. -/
def PlAt (W : World) (pb : Nat) (pl : List Pc) : Prop := W.heap[pb]? = some (.cells (pl.flatMap Pc.fns).toArray 113)
theorem PlAt.lt {W : World} {pb : Nat} {pl : List Pc} (h : PlAt W pb pl) : pb < W.heap.size := (Array.getElem?_eq_some_iff.1 h).1
theorem PlAt.out {X : Nat → Prop} {W W' : World} {pb : Nat} {pl : List Pc} (h : PlAt W pb pl) (hO : Out X W W') (hx : ¬ X pb) : PlAt W' pb pl := (hO.block pb h.lt hx).trans h
theorem PlAt.below {W W' : World} {pb : Nat} {pl : List Pc} (h : PlAt W pb pl) (hB : Below W.heap.size W W') : PlAt W' pb pl := (hB.block pb h.lt).trans h
theorem flat_get {α : Type} (m : Nat) (l : List α) (g : α → List Value) (hl : ∀ x ∈ l, (g x).length = m) (k : Nat) (x : α) (h : l[k]? = some x) (j : Nat) (hj : j < m) : (l.flatMap g)[k * m + j]? = (g x)[j]? := by
  induction l generalizing k with
  | nil => cases h
  | cons y l ih =>
    have hy := hl y (.head _)
    rw [List.flatMap_cons]
    cases k with
    | zero =>
      simp only [List.getElem?_cons_zero, Option.some.injEq] at h
      subst h
      rw [Nat.zero_mul, Nat.zero_add, List.getElem?_append_left (by omega)]
    | succ k =>
      have := ih (fun z hz => hl z (.tail _ hz)) k (by simpa using h)
      rw [Nat.add_mul, Nat.one_mul, List.getElem?_append_right (by omega), ← this, hy]
      congr 1; omega
theorem fns_len (p : Pc) : p.fns.length = 3 := by cases p <;> rfl
theorem PlAt.cells {W : World} {pb : Nat} {pl : List Pc} (h : PlAt W pb pl) {k : Nat} {p : Pc} (hk : pl[k]? = some p) {x0 x1 x2 : Value} (hp : p.fns = [x0, x1, x2]) : W.cell? ⟨pb, k * 3, none⟩ = some x0 ∧ W.cell? ⟨pb, k * 3 + 1, none⟩ = some x1 ∧ W.cell? ⟨pb, k * 3 + 2, none⟩ = some x2 := by
  have key : ∀ j, j < 3 → W.cell? ⟨pb, k * 3 + j, none⟩ = p.fns[j]? := fun j hj => by
    have h1 := flat_get 3 pl Pc.fns (fun x _ => fns_len x) k p hk j hj
    unfold PlAt at h
    simp only [World.cell?, h]
    simpa using h1
  have k0 := key 0 (by decide)
  have k1 := key 1 (by decide)
  have k2 := key 2 (by decide)
  rw [hp] at k0 k1 k2
  exact ⟨k0, k1, k2⟩
theorem formsL_length : formsL.length = 20 := rfl
theorem FoAt.below {N : Nat} {W W' : World} (h : FoAt N W) (hB : Below W.heap.size W W') : FoAt N W' := ⟨(hB.block _ (Array.getElem?_eq_some_iff.1 h.big).1).trans h.big, fun i f hf => (hB.block _ (Array.getElem?_eq_some_iff.1 (h.plc i f hf)).1).trans (h.plc i f hf)⟩
theorem FoAt.cells {N : Nat} {W : World} (h : FoAt N W) {k : Nat} {f : Fo} (hk : formsL[k]? = some f) :
    W.cell? ⟨N + 28, k * 11, none⟩ = some (.string ⟨f.word.toArray⟩) ∧ W.cell? ⟨N + 28, k * 11 + 1, none⟩ = some (.int .i64 f.kind) ∧ W.cell? ⟨N + 28, k * 11 + 2, none⟩ = some (.int .i64 0) ∧ W.cell? ⟨N + 28, k * 11 + 3, none⟩ = some (.int .i64 0) ∧ W.cell? ⟨N + 28, k * 11 + 4, none⟩ = some (.int .i64 0) ∧ W.cell? ⟨N + 28, k * 11 + 5, none⟩ = some (.int .i64 f.m) ∧ W.cell? ⟨N + 28, k * 11 + 6, none⟩ = some (.int .i64 f.op) ∧
    W.cell? ⟨N + 28, k * 11 + 7, none⟩ = some (.string ⟨#[]⟩) ∧ W.cell? ⟨N + 28, k * 11 + 8, none⟩ = some (.string ⟨#[]⟩) ∧ W.cell? ⟨N + 28, k * 11 + 9, none⟩ = some (.string ⟨#[]⟩) ∧ W.cell? ⟨N + 28, k * 11 + 10, none⟩ = some (.slice (some ⟨N + 8 + k, 0, none⟩) f.pl.length f.pl.length) := by
  have key : ∀ j, j < 11 → W.cell? ⟨N + 28, k * 11 + j, none⟩ = (f.row N k)[j]? := fun j hj => by
    have hz : formsL.zipIdx[k]? = some (f, k) := by rw [List.getElem?_zipIdx, hk]; simp
    have h1 := flat_get 11 formsL.zipIdx (fun x => x.1.row N x.2) (fun x _ => rfl) k (f, k) hz j hj
    have hb := h.big
    simp only [World.cell?, hb, formsC]
    simpa using h1
  exact ⟨key 0 (by decide), key 1 (by decide), key 2 (by decide), key 3 (by decide), key 4 (by decide), key 5 (by decide), key 6 (by decide), key 7 (by decide), key 8 (by decide), key 9 (by decide), key 10 (by decide)⟩
/-- What formOfWord answers. -/
def FwR (s : Bs) (e : Ending) (w' : World) : Prop := match findF formsL s with
  | none => e = .returned (.tuple #[.agg fo0, .bool false])
  | some f => ∃ pb, e = .returned (.tuple #[.agg (f.cs pb), .bool true]) ∧ PlAt w' pb f.pl
theorem findF_step {l : List Fo} {k : Nat} {f : Fo} (hk : l[k]? = some f) (s : Bs) : findF (l.drop k) s = if f.word = s then some f else findF (l.drop (k + 1)) s := by
  obtain ⟨h1, h2⟩ := List.getElem?_eq_some_iff.1 hk
  rw [List.drop_eq_getElem_cons h1, h2, findF]
set_option maxRecDepth 100000 in
set_option maxHeartbeats 2000000 in
theorem formOfWord_any (s : Bs) (w : World) : Calls Tryz.prog 45 #[str s] w fun e w' => FwR s e w' ∧ Below w.heap.size w w' := by
  have HFO := forms_any (w.alloc (.cells fo0 107))
  rw [World.size_alloc] at HFO
  have HX0 : Hid ((w.alloc (.cells fo0 107)).heap[w.heap.size]? = some (.cells fo0 107 (0, 0))) := heap_alloc_new w _
  have HB0 : Hid (Below w.heap.size w (w.alloc (.cells fo0 107))) := (Below.refl _ _).alloc (Nat.le_refl _) _
  unfold str
  unfold fo0 at HFO HX0 HB0
  go_enter Tryz.func45, Tryz.ntmps45
  go_wp2_with fail
  refine HFO.mono ?_
  rintro e w1 ⟨rfl, hF1, hB1⟩
  have HF1 : Hid (FoAt (w.heap.size + 1) w1) := hF1
  have hB01 : Below w.heap.size w w1 := HB0.out.trans (hB1.mono (by omega))
  have HX1 : Hid (w1.heap[w.heap.size]? = some (.cells fo0 107 (0, 0))) := (hB1.block _ (by omega)).trans HX0.out
  have HB1 : Hid (Below w.heap.size w w1) := hB01
  have hs1 : w.heap.size + 29 < w1.heap.size := by have := (Array.getElem?_eq_some_iff.1 hF1.big).1; omega
  clear hF1 hB1 hB01 HFO HX0 HB0
  go_wp2
  go_loopw [8] (fun i wr => ∃ k : Nat, i = .int .i64 k ∧ k ≤ 20 ∧ Hid (findF formsL s = findF (formsL.drop k) s) ∧ Hid (Below w1.heap.size w1 wr)) (fun i _ => 20 - (intOf i).toNat)
  case atStart => exact ⟨0, rfl, by omega, by show _ = _; rw [List.drop_zero], Below.refl _ _⟩
  case round =>
    obtain ⟨k, rfl, hk, HFI, HBR⟩ := hrel
    have hzr : w1.heap.size ≤ wr.heap.size := HBR.out.size
    have HXr : Hid (wr.heap[w.heap.size]? = some (.cells fo0 107 (0, 0))) := (HBR.out.block _ (by omega)).trans HX1.out
    have hXr := HXr.out
    unfold fo0 at hXr
    obtain ⟨⟨r0, r1, r2, r3, r4, r5, r6, r7, r8, r9, r10⟩, rf⟩ := cells11 hXr
    have rf2 : ∀ (o : Obj) (j : Nat), (wr.alloc o).frozen? ⟨w.heap.size, j, none⟩ = false := fun o j => by
      have h2 : (wr.alloc o).heap[w.heap.size]? = _ := (Below.heap_alloc _ _ _ (by omega)).trans hXr
      simp [World.frozen?, h2]
    have rc2 : ∀ (o : Obj) (j : Nat), (wr.alloc o).cell? ⟨w.heap.size, j, none⟩ = wr.cell? ⟨w.heap.size, j, none⟩ := fun o j => ((Below.refl _ wr).alloc (Nat.le_refl _) o).cell (p := ⟨w.heap.size, j, none⟩) (by show w.heap.size < _; omega)
    clear hXr
    have HBW : Hid (Below w.heap.size w wr) := HB1.out.trans (HBR.out.mono (by omega))
    by_cases hlt : k < 20
    · obtain ⟨f, hf⟩ : ∃ f, formsL[k]? = some f := ⟨_, List.getElem?_eq_getElem (by rw [formsL_length]; exact hlt)⟩
      have hFr : FoAt (w.heap.size + 1) wr := HF1.out.below HBR.out
      obtain ⟨c0, c1, c2, c3, c4, c5, c6, c7, c8, c9, c10⟩ := hFr.cells hf
      have HPL : Hid (PlAt wr (w.heap.size + 1 + 8 + k) f.pl) := hFr.plc k f hf
      have hstep := findF_step hf s
      have HST : Hid (findF formsL s = if f.word = s then some f else findF (formsL.drop (k + 1)) s) := HFI.out.trans hstep
      clear hFr hstep hf
      cases hq : (f.word == s)
      · have HST2 : Hid (findF formsL s = findF (formsL.drop (k + 1)) s) := by
          show _ = _
          rw [HST.out, if_neg]
          intro e; rw [e] at hq; simp at hq
        go_wp2
        go_roundw
        case rel => exact ⟨k + 1, by simp, by omega, HST2.out, (HBR.out.alloc hzr _)⟩
        case measure => simp [intOf]; omega
      · have HST2 : Hid (findF formsL s = some f) := by
          show _ = _
          rw [HST.out, if_pos]
          exact by simpa using hq
        go_wp2
        refine bodyPost_ret (results_Fb rfl _ _ w.heap.size rfl rfl (set11 ((Below.heap_alloc _ _ _ (by omega)).trans HXr.out) _ _ _ _ _ _ _ _ _ _ _)) rfl ?_
        refine ⟨?_, ?_⟩
        · unfold FwR
          rw [HST2.out]
          refine ⟨_, rfl, ?_⟩
          exact ((HPL.out.below ((Below.refl _ _).alloc (Nat.le_refl _) _)).out (out11 (X := fun i => i = w.heap.size) rfl _ _ _ _ _ _ _ _ _ _ _) (by omega))
        · exact (HBW.out.alloc (by omega) _).trans ((out11 (X := fun i => i = w.heap.size) rfl _ _ _ _ _ _ _ _ _ _ _).below (by simp; omega) (by intro i hi; omega))
    · have : k = 20 := by omega
      subst this
      have HST2 : Hid (findF formsL s = none) := HFI.out
      go_wp2
      refine bodyPost_ret (results_Fb rfl _ _ w.heap.size rfl rfl (set11 HXr.out _ _ _ _ _ _ _ _ _ _ _)) rfl ?_
      refine ⟨?_, ?_⟩
      · unfold FwR
        rw [HST2.out]
        rfl
      · exact HBW.out.trans ((out11 (X := fun i => i = w.heap.size) rfl _ _ _ _ _ _ _ _ _ _ _).below (by omega) (by intro i hi; omega))
end Go.Proofs.YtbckogojnjmjcaaGreatDoor
