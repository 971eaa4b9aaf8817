/-
  The program's log and the document's side by side; an entry that is written out.
-/
import Derived.Test.YteekpfgjpdopmaaRt2
import Derived.Test.YteekpfgjpdopmaaRk
import Derived.Test.YteekpfgjpdopmaaAq
import Derived.Test.YteekpfgjpdopmaaFi
namespace Go.Proofs.Yteekpfgjpdopmaa
open Go.RowKit
set_option linter.unusedVariables false

/-- The program's log at b, the document's at d. -/
structure Bw (N : Nat) (S T : Nat → Prop) (w : World) (b d : Nat) (P Q : PL) : Prop where
  l : Lg N S w b P
  r : Rg N T w d Q
  ap : ∀ i, S i → ¬ T i
  hN : N ≤ w.heap.size
theorem Lg.wide {N N' : Nat} {S : Nat → Prop} {w : World} {b : Nat} {P : PL} (h : Lg N S w b P) (hN : N' ≤ N) : Lg N' S w b P := ⟨h.at_, h.ok, h.Sb, h.inn, fun i hi => Nat.le_trans hN (h.fr i hi)⟩
theorem Rg.wide {N N' : Nat} {S : Nat → Prop} {w : World} {b : Nat} {P : PL} (h : Rg N S w b P) (hN : N' ≤ N) : Rg N' S w b P := ⟨h.at_, h.ok, h.Sb, h.inn, fun i hi => Nat.le_trans hN (h.fr i hi)⟩
theorem Bw.below {N : Nat} {S T : Nat → Prop} {w w' : World} {b d : Nat} {P Q : PL} (h : Bw N S T w b d P Q) (hB : Below w.heap.size w w') : Bw N S T w' b d P Q := ⟨h.l.below hB, h.r.below hB, h.ap, Nat.le_trans h.hN hB.size⟩
theorem Bw.make {W0 W1 W2 : World} {S T : Nat → Prop} {b d : Nat} {P Q : PL} (h1 : Lg W0.heap.size S W1 b P) (hB : Below W0.heap.size W0 W1) (h2 : Rg W1.heap.size T W2 d Q) (hB2 : Below W1.heap.size W1 W2) : Bw W0.heap.size S T W2 b d P Q :=
  ⟨h1.below hB2, h2.wide hB.size, fun i hi ht => by have := h1.inn i hi; have := h2.fr i ht; omega, Nat.le_trans hB.size hB2.size⟩
/-- The program's log has turned. -/
theorem Bw.one {N : Nat} {S T : Nat → Prop} {w w' : World} {b d : Nat} {P P' Q : PL} (h : Bw N S T w b d P Q) (t : LTh N S w w' b P') : Bw N (grew S w w') T w' b d P' Q ∧ Below N w w' :=
  ⟨⟨t.q, h.r.out t.out (fun i hi hs => h.ap i hs hi), fun i hi ht => hi.elim (fun q => h.ap i q ht) (fun q => by have := h.r.inn i ht; omega), Nat.le_trans h.hN t.out.size⟩, t.bel h.hN⟩
/-- The document's has. -/
theorem Bw.two {N : Nat} {S T : Nat → Prop} {w w' : World} {b d : Nat} {P Q Q' : PL} (h : Bw N S T w b d P Q) (t : RTh N T w w' d Q') : Bw N S (grew T w w') w' b d P Q' ∧ Below N w w' :=
  ⟨⟨h.l.out t.out (fun i hi ht => h.ap i hi ht), t.q, fun i hi ht => ht.elim (fun q => h.ap i hi q) (fun q => by have := h.l.inn i hi; omega), Nat.le_trans h.hN t.out.size⟩, t.bel h.hN⟩

theorem nil_sl (N : Nat) (w : World) : Sl N w (.slice none 0 0) [] := ⟨none, 0, rfl, by simp, by unfold maxLen; omega, .inl rfl⟩
/-- An entry without data that was just written out. -/
theorem at_one {W V : World} (t i k : Int) (hh : V.heap[W.heap.size]? = some (.cells #[.int .i64 t, .int .i64 i, .int .i64 k, .slice none 0 0] 40 (0, 0))) : EntsAt (W.heap.size + 1) V (some ⟨W.heap.size, 0, none⟩) [⟨t, i, k, none, 0, []⟩] := by
  refine .inr ⟨W.heap.size, 0, rfl, by omega, fun j hj => ?_⟩
  obtain rfl : j = 0 := by simpa using hj
  refine ⟨?_, ?_, ?_, ?_, nil_sl _ _⟩
  · simp only [World.cell?, hh]; rfl
  · simp only [World.cell?, hh]; rfl
  · simp only [World.cell?, hh]; rfl
  · simp only [World.cell?, hh]; rfl
theorem sta_one {S : Nat → Prop} {W : World} (t i k : Int) (hS : ∀ j, S j → j < W.heap.size) : Sta S (W.alloc (.cells #[.int .i64 t, .int .i64 i, .int .i64 k, .slice none 0 0] 40)) (some ⟨W.heap.size, 0, none⟩) [⟨t, i, k, none, 0, []⟩] := fun w' hO => by
  have h1 : (W.alloc (.cells #[.int .i64 t, .int .i64 i, .int .i64 k, .slice none 0 0] 40)).heap[W.heap.size]? = some (.cells #[.int .i64 t, .int .i64 i, .int .i64 k, .slice none 0 0] 40 (0, 0)) := heap_alloc_new W _
  have h2 := (hO.block W.heap.size (by simp) (fun h => by have := hS _ h; omega)).trans h1
  refine ⟨W.heap.size + 1, ?_, at_one t i k h2⟩
  have := hO.size
  simp at this
  omega
theorem ckOne {L : Int} (h0 : 0 ≤ L) (h1 : L + 1 ≤ 4611686018427387904) : ckList L 1 [(1, L + 1, 0, [])] = 0 := by
  have e : eCk (1, L + 1, 0, []) = 0 := by
    unfold eCk eT eI eK eD ckEntry isIn
    simp
    omega
  unfold ckList firstErr goesE
  rw [e]
  simp [firstErr, goesE, eI, eT]
end Go.Proofs.Yteekpfgjpdopmaa
