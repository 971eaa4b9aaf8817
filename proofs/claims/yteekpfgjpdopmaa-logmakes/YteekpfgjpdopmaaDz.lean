/-
  The two logs beside the boxes of an operation's three arguments.
-/
import Derived.Test.YteekpfgjpdopmaaSo
import Derived.Test.YteekpfgjpdopmaaRv
import Derived.Test.YteekpfgjpdopmaaRu
import Derived.Test.YteekpfgjpdopmaaRx
import Derived.Test.YteekpfgjpdopmaaRp
import Derived.Test.YteekpfgjpdopmaaRr
import Derived.Test.YteekpfgjpdopmaaRs
import Derived.Test.YteekpfgjpdopmaaRb
namespace Go.Proofs.Yteekpfgjpdopmaa
open Go.RowKit
set_option linter.unusedVariables false

/-- Behind an operation. -/
def Dn8 (N : Nat) (w : World) (b d : Nat) (e : Ending) (w' : World) : Prop := ∃ S' T' P', e = .returned (.bool true) ∧ Bw N S' T' w' b d P' P' ∧ Below N w w'
/-- The logs, and the boxes from X on. -/
structure Dz (N : Nat) (S T : Nat → Prop) (w W : World) (b d X : Nat) (P Q : PL) (k n t m : Int) (E B : Value) : Prop where
  bw : Bw N S T W b d P Q
  x0 : W.heap[X]? = some (.cells #[.pointer (some ⟨b, 0, none⟩)] 25 (0, 0))
  x1 : W.heap[X + 1]? = some (.cells #[.pointer (some ⟨d, 0, none⟩)] 29 (0, 0))
  x2 : W.heap[X + 2]? = some (.cells #[.int .i64 k, .int .i64 n, .int .i64 t, .int .i64 m, E, B] 37 (0, 0))
  ns : ∀ i, S i → i < X ∨ X + 3 ≤ i
  nt : ∀ i, T i → i < X ∨ X + 3 ≤ i
  bel : Below N w W
  hX : X + 3 ≤ W.heap.size
variable {N : Nat} {S T : Nat → Prop} {w W W' : World} {b d X : Nat} {P P' Q : PL} {k n t m : Int} {E B : Value}
theorem Dz.start (h : Bw N S T w b d P Q) (k n t m : Int) (E B : Value) : Dz N S T w (((w.alloc (.cells #[.pointer (some ⟨b, 0, none⟩)] 25)).alloc (.cells #[.pointer (some ⟨d, 0, none⟩)] 29)).alloc (.cells #[.int .i64 k, .int .i64 n, .int .i64 t, .int .i64 m, E, B] 37)) b d w.heap.size P Q k n t m E B := by
  have h1 : (w.alloc (.cells #[.pointer (some ⟨b, 0, none⟩)] 25)).heap.size = w.heap.size + 1 := by simp
  have h2 : ((w.alloc (.cells #[.pointer (some ⟨b, 0, none⟩)] 25)).alloc (.cells #[.pointer (some ⟨d, 0, none⟩)] 29)).heap.size = w.heap.size + 2 := by simp
  have hB : Below w.heap.size w (((w.alloc (.cells #[.pointer (some ⟨b, 0, none⟩)] 25)).alloc (.cells #[.pointer (some ⟨d, 0, none⟩)] 29)).alloc (.cells #[.int .i64 k, .int .i64 n, .int .i64 t, .int .i64 m, E, B] 37)) := (((Below.refl _ _).alloc (Nat.le_refl _) _).alloc (by omega) _).alloc (by omega) _
  refine ⟨h.below hB, ?_, ?_, ?_, fun i hi => .inl (h.l.inn i hi), fun i hi => .inl (h.r.inn i hi), hB.mono h.hN, by simp⟩
  · rw [heap_alloc_old _ _ (by omega), heap_alloc_old _ _ (by omega)]; exact heap_alloc_new w _
  · rw [heap_alloc_old _ _ (by omega), ← h1]; exact heap_alloc_new _ _
  · rw [← h2]; exact heap_alloc_new _ _
theorem Dz.turn {Y : Nat → Prop} {S' T' : Nat → Prop} {P2 Q2 : PL} (h : Dz N S T w W b d X P Q k n t m E B) (hw : Bw N S' T' W' b d P2 Q2) (hO : Out Y W W') (hY : ∀ i, Y i → i < X ∨ X + 3 ≤ i) (hs : ∀ i, S' i → i < X ∨ X + 3 ≤ i) (ht : ∀ i, T' i → i < X ∨ X + 3 ≤ i) (hB : Below N W W') : Dz N S' T' w W' b d X P2 Q2 k n t m E B := by
  have hx := h.hX
  have nY : ∀ j, X ≤ j → j < X + 3 → ¬ Y j := fun j h1 h2 hy => by have := hY j hy; omega
  exact ⟨hw, (hO.block X (by omega) (nY _ (by omega) (by omega))).trans h.x0, (hO.block (X + 1) (by omega) (nY _ (by omega) (by omega))).trans h.x1, (hO.block (X + 2) (by omega) (nY _ (by omega) (by omega))).trans h.x2, hs, ht, h.bel.trans hB, Nat.le_trans hx hO.size⟩
theorem Dz.one (h : Dz N S T w W b d X P Q k n t m E B) (t' : LTh N S W W' b P') : Dz N (grew S W W') T w W' b d X P' Q k n t m E B :=
  h.turn (h.bw.one t').1 t'.out h.ns (fun i hi => hi.elim (fun q => h.ns i q) (fun q => .inr (by have := h.hX; omega))) h.nt (h.bw.one t').2
theorem Dz.two (h : Dz N S T w W b d X P Q k n t m E B) (t' : RTh N T W W' d P') : Dz N S (grew T W W') w W' b d X P P' k n t m E B :=
  h.turn (h.bw.two t').1 t'.out h.nt h.ns (fun i hi => hi.elim (fun q => h.nt i q) (fun q => .inr (by have := h.hX; omega))) (h.bw.two t').2
theorem Dz.below (h : Dz N S T w W b d X P Q k n t m E B) (hB : Below W.heap.size W W') : Dz N S T w W' b d X P Q k n t m E B :=
  h.turn (Y := fun _ => False) (h.bw.below hB) (Out.of_below hB) (fun _ hf => hf.elim) h.ns h.nt (hB.mono h.bw.hN)
theorem Dz.cells (h : Dz N S T w W b d X P Q k n t m E B) : (W.cell? ⟨X, 0, none⟩ = some (.pointer (some ⟨b, 0, none⟩)) ∧ W.cell? ⟨X + 1, 0, none⟩ = some (.pointer (some ⟨d, 0, none⟩))) ∧ W.cell? ⟨X + 2, 0, none⟩ = some (.int .i64 k) ∧ W.cell? ⟨X + 2, 1, none⟩ = some (.int .i64 n) ∧ W.cell? ⟨X + 2, 2, none⟩ = some (.int .i64 t) ∧ W.cell? ⟨X + 2, 3, none⟩ = some (.int .i64 m) ∧ W.cell? ⟨X + 2, 4, none⟩ = some E ∧ W.cell? ⟨X + 2, 5, none⟩ = some B := by
  refine ⟨⟨?_, ?_⟩, ?_, ?_, ?_, ?_, ?_, ?_⟩
  · simp only [World.cell?, h.x0]; rfl
  · simp only [World.cell?, h.x1]; rfl
  · simp only [World.cell?, h.x2]; rfl
  · simp only [World.cell?, h.x2]; rfl
  · simp only [World.cell?, h.x2]; rfl
  · simp only [World.cell?, h.x2]; rfl
  · simp only [World.cell?, h.x2]; rfl
  · simp only [World.cell?, h.x2]; rfl
theorem Dz.dn {S' T' : Nat → Prop} (h : Dz N S' T' w W b d X P P k n t m E B) {e : Ending} (he : e = .returned (.bool true)) : Dn8 N w b d e W := ⟨S', T', P, he, h.bw, h.bel⟩
end Go.Proofs.Yteekpfgjpdopmaa
