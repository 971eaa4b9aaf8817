/-
  The document's reader, the store that it fills, and a session that is being read into a box of its own.
-/
import Derived.Test.YtglhjgfaelfleaaGreatRh
namespace Go.Proofs.YtglhjgfaelfleaaGreat
open Go.RowKit Go.Shelf
set_option linter.unusedVariables false

/-- Beside the reader and the store: at X the box of a session. -/
structure Dx (w0 W : World) (Q D X : Nat) (v : Value) (l : Bs) (s : Nat × Nat) (vp vs : Value) (K : KV) (c0 c1 c2 c3 : Value) : Prop where
  db : Db w0 W Q D v l s vp vs K
  hx : W.heap[X]? = some (.cells #[c0, c1, c2, c3] 70 (0, 0))
  nx : vs.ownBlock ≠ some X
  lo : w0.heap.size ≤ X
variable {w0 W W' : World} {Q D X : Nat} {v : Value} {l : Bs} {s s' : Nat × Nat} {vp vs : Value} {K : KV} {c0 c1 c2 c3 : Value}
theorem Dx.lt (h : Dx w0 W Q D X v l s vp vs K c0 c1 c2 c3) : X < W.heap.size := (Array.getElem?_eq_some_iff.1 h.hx).1
theorem Dx.neQ (h : Dx w0 W Q D X v l s vp vs K c0 c1 c2 c3) : X ≠ Q := by
  intro e
  have h1 := h.hx
  rw [e, h.db.rq.rrd.at0] at h1
  simp at h1
theorem Dx.neD (h : Dx w0 W Q D X v l s vp vs K c0 c1 c2 c3) : X ≠ D := by
  intro e
  have h1 := h.hx
  rw [e, h.db.hd] at h1
  simp at h1
theorem Dx.neP (h : Dx w0 W Q D X v l s vp vs K c0 c1 c2 c3) : vp.ownBlock ≠ some X := h.db.rp.apart h.hx (by decide)
theorem Dx.go (h : Dx w0 W Q D X v l s vp vs K c0 c1 c2 c3) (h' : Rq w0 W' Q v l s'.1 s'.2) (hO : Out (fun i => i = Q) W W') : Dx w0 W' Q D X v l s' vp vs K c0 c1 c2 c3 :=
  ⟨h.db.go h' hO, (hO.block X h.lt h.neQ).trans h.hx, h.nx, h.lo⟩
theorem Dx.below (h : Dx w0 W Q D X v l s vp vs K c0 c1 c2 c3) (hB : Below W.heap.size W W') : Dx w0 W' Q D X v l s vp vs K c0 c1 c2 c3 :=
  ⟨h.db.below hB, (hB.block X h.lt).trans h.hx, h.nx, h.lo⟩
theorem Db.box (h : Db w0 W Q D v l s vp vs K) {B : Nat} (hB : B = W.heap.size) (c0 c1 c2 c3 : Value) : Dx w0 (W.alloc (.cells #[c0, c1, c2, c3] 70)) Q D B v l s vp vs K c0 c1 c2 c3 := by
  subst hB
  exact ⟨h.below ((Below.refl _ _).alloc (Nat.le_refl _) _), heap_alloc_new W _, fun e => by have := (h.rs.lt e).2; omega, h.rq.bel.size⟩
theorem Dx.poke (h : Dx w0 W Q D X v l s vp vs K c0 c1 c2 c3) (j : Nat) (u : Value) : Db w0 (W.setCell ⟨X, j, none⟩ u) Q D v l s vp vs K :=
  ⟨h.db.rq.kept (grown_set W X j u) (by simpa using h.neQ) (fun k e => by cases e; exact h.lo), ((grown_set W X j u).block D h.db.lt (fun e => h.neD (by simpa using e.symm))).trans h.db.hd, h.db.rp.kept (grown_set W X j u) (.inr h.neP), h.db.rs.kept (grown_set W X j u) (.inr h.nx), h.db.low⟩
theorem heap_set0 {W : World} {X : Nat} {c0 c1 c2 c3 : Value} {t : TypeId} (h : W.heap[X]? = some (.cells #[c0, c1, c2, c3] t (0, 0))) (u : Value) : (W.setCell ⟨X, 0, none⟩ u).heap[X]? = some (.cells #[u, c1, c2, c3] t (0, 0)) := by
  have hl : X < W.heap.size := (Array.getElem?_eq_some_iff.1 h).1
  show (W.heap.modify X _)[X]? = _
  rw [Array.getElem?_eq_getElem (by rw [Array.size_modify]; exact hl), Array.getElem_modify_self, (Array.getElem?_eq_some_iff.1 h).2]
  rfl
theorem heap_set1 {W : World} {X : Nat} {c0 c1 c2 c3 : Value} {t : TypeId} (h : W.heap[X]? = some (.cells #[c0, c1, c2, c3] t (0, 0))) (u : Value) : (W.setCell ⟨X, 1, none⟩ u).heap[X]? = some (.cells #[c0, u, c2, c3] t (0, 0)) := by
  have hl : X < W.heap.size := (Array.getElem?_eq_some_iff.1 h).1
  show (W.heap.modify X _)[X]? = _
  rw [Array.getElem?_eq_getElem (by rw [Array.size_modify]; exact hl), Array.getElem_modify_self, (Array.getElem?_eq_some_iff.1 h).2]
  rfl
theorem heap_set2 {W : World} {X : Nat} {c0 c1 c2 c3 : Value} {t : TypeId} (h : W.heap[X]? = some (.cells #[c0, c1, c2, c3] t (0, 0))) (u : Value) : (W.setCell ⟨X, 2, none⟩ u).heap[X]? = some (.cells #[c0, c1, u, c3] t (0, 0)) := by
  have hl : X < W.heap.size := (Array.getElem?_eq_some_iff.1 h).1
  show (W.heap.modify X _)[X]? = _
  rw [Array.getElem?_eq_getElem (by rw [Array.size_modify]; exact hl), Array.getElem_modify_self, (Array.getElem?_eq_some_iff.1 h).2]
  rfl
theorem heap_set3 {W : World} {X : Nat} {c0 c1 c2 c3 : Value} {t : TypeId} (h : W.heap[X]? = some (.cells #[c0, c1, c2, c3] t (0, 0))) (u : Value) : (W.setCell ⟨X, 3, none⟩ u).heap[X]? = some (.cells #[c0, c1, c2, u] t (0, 0)) := by
  have hl : X < W.heap.size := (Array.getElem?_eq_some_iff.1 h).1
  show (W.heap.modify X _)[X]? = _
  rw [Array.getElem?_eq_getElem (by rw [Array.size_modify]; exact hl), Array.getElem_modify_self, (Array.getElem?_eq_some_iff.1 h).2]
  rfl
theorem Dx.set0 (h : Dx w0 W Q D X v l s vp vs K c0 c1 c2 c3) (u : Value) : Dx w0 (W.setCell ⟨X, 0, none⟩ u) Q D X v l s vp vs K u c1 c2 c3 := ⟨h.poke 0 u, heap_set0 h.hx u, h.nx, h.lo⟩
theorem Dx.set1 (h : Dx w0 W Q D X v l s vp vs K c0 c1 c2 c3) (u : Value) : Dx w0 (W.setCell ⟨X, 1, none⟩ u) Q D X v l s vp vs K c0 u c2 c3 := ⟨h.poke 1 u, heap_set1 h.hx u, h.nx, h.lo⟩
theorem Dx.set2 (h : Dx w0 W Q D X v l s vp vs K c0 c1 c2 c3) (u : Value) : Dx w0 (W.setCell ⟨X, 2, none⟩ u) Q D X v l s vp vs K c0 c1 u c3 := ⟨h.poke 2 u, heap_set2 h.hx u, h.nx, h.lo⟩
theorem Dx.set3 (h : Dx w0 W Q D X v l s vp vs K c0 c1 c2 c3) (u : Value) : Dx w0 (W.setCell ⟨X, 3, none⟩ u) Q D X v l s vp vs K c0 c1 c2 u := ⟨h.poke 3 u, heap_set3 h.hx u, h.nx, h.lo⟩
theorem Dx.box (h : Dx w0 W Q D X v l s vp vs K c0 c1 c2 c3) : (W.cell? ⟨X, 0, none⟩ = some c0 ∧ W.cell? ⟨X, 1, none⟩ = some c1 ∧ W.cell? ⟨X, 2, none⟩ = some c2 ∧ W.cell? ⟨X, 3, none⟩ = some c3) ∧ (W.frozen? ⟨X, 0, none⟩ = false ∧ W.frozen? ⟨X, 1, none⟩ = false ∧ W.frozen? ⟨X, 2, none⟩ = false ∧ W.frozen? ⟨X, 3, none⟩ = false) := by
  refine ⟨⟨?_, ?_, ?_, ?_⟩, ?_, ?_, ?_, ?_⟩
  · simp only [World.cell?, h.hx]; rfl
  · simp only [World.cell?, h.hx]; rfl
  · simp only [World.cell?, h.hx]; rfl
  · simp only [World.cell?, h.hx]; rfl
  · simp [World.frozen?, h.hx]
  · simp [World.frozen?, h.hx]
  · simp [World.frozen?, h.hx]
  · simp [World.frozen?, h.hx]
end Go.Proofs.YtglhjgfaelfleaaGreat
