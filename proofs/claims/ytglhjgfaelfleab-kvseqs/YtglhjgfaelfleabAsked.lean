/-
  One call of a reader, held against the document's: true, and both stand in one state again.
-/
import Derived.Test.YtglhjgfaelfleabQtake
namespace Go.Proofs.Ytglhjgfaelfleab
open Go.RowKit Go.Shelf

theorem takeAt_le (l : List UInt8) (a e : Nat) (most : Int) (ha : a ≤ l.length) : (takeAt l a e most).2.1 ≤ l.length := by
  have hb := pk_bd l a e
  unfold takeAt
  split
  · exact ha
  · split
    · exact ha
    · split
      · exact ha
      · have := hb.2.2.1 ha; simp only; omega

theorem boolAt_le (l : List UInt8) (a e : Nat) (ha : a ≤ l.length) : (boolAt l a e).2.1 ≤ l.length := by
  have hb := pk_bd l a e
  unfold boolAt
  split
  · exact ha
  · exact hb.2.2.1 ha

/-- One byte of bytes of the call's own is written over. -/
theorem Ow.store {N : Nat} {w : World} {g cap : Nat} {l : List UInt8} (h : Ow N w (.slice (some ⟨g, 0, none⟩) l.length cap) l) (k : Nat) (x : UInt8) :
    Ow N (w.setCell ⟨g, k, none⟩ (encB x)) (.slice (some ⟨g, 0, none⟩) l.length cap) (l.set k x) := by
  rcases h.2 with ⟨h0, h1⟩ | ⟨g', cap', cur, hv, hg, hh, hc1, hc2, hc3, hc4⟩
  · cases h0
  · cases hv
    refine ⟨by simp, .inr ⟨g, cap, cur.set! k (encB x), by simp, hg, ?_, by simpa using hc1, hc2, by simpa using hc3, ?_⟩⟩
    · obtain ⟨hlt, he⟩ := Array.getElem?_eq_some_iff.1 hh
      show (w.heap.modify g _)[g]? = _
      rw [Array.getElem?_eq_getElem (by rw [Array.size_modify]; exact hlt), Array.getElem_modify_self, he]
      simp
    · simp only [Nat.mul_one, List.length_set] at hc4 ⊢
      rw [Array.set!_eq_setIfInBounds, Array.toList_setIfInBounds, List.take_set, hc4, List.map_set]

theorem Ow.can {N : Nat} {w : World} {g cap : Nat} {l : List UInt8} (h : Ow N w (.slice (some ⟨g, 0, none⟩) l.length cap) l) (k : Nat) (hk : k < l.length) : w.cell? ⟨g, k, none⟩ = some (encB (byteAt l k)) ∧ w.frozen? ⟨g, k, none⟩ = false ∧ N ≤ g := by
  obtain ⟨g', e, _, _, _, hc⟩ := h.at0 (by omega)
  cases e
  refine ⟨by have := hc k hk; rw [Nat.zero_add] at this; exact this, ?_, ?_⟩
  · rcases h.2 with ⟨h0, _⟩ | ⟨g', cap', cur, hv, hg, hh, _⟩
    · cases h0
    · cases hv; simp [World.frozen?, hh]
  · exact (World.ownsRow.lt h g rfl).1

end Go.Proofs.Ytglhjgfaelfleab
