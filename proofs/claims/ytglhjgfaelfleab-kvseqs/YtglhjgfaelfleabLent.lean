/-
  What is lent and kept: a copy with one more byte behind it; whether it is as it was.
-/
import Derived.Test.YtglhjgfaelfleabFirst
namespace Go.Proofs.Ytglhjgfaelfleab
open Go.RowKit Go.Shelf

/-- What was lent, as far as it reads. -/
theorem Ow.lent {N M : Nat} {w : World} {g cap : Nat} {l : List UInt8} (h : Ow N w (.slice (some ⟨g, 0, none⟩) (l.length + 1) cap) (l ++ [201])) (hM : w.heap.size ≤ M) : Sl M w (.slice (some ⟨g, 0, none⟩) l.length cap) l := by
  obtain ⟨a, c, e, h1, h2, h3⟩ := h.sl hM
  have hlen : (l ++ [(201 : UInt8)]).length = l.length + 1 := by simp
  rw [hlen] at e h1
  cases e
  refine ⟨_, _, rfl, by omega, h2, ?_⟩
  obtain ⟨b, off, e2, hb, hc⟩ := h3.resolve_left (by simp)
  refine .inr ⟨b, off, e2, hb, fun i hi => ?_⟩
  rw [hc i (by omega)]
  simp [List.getElem?_append, hi]

theorem Ow.mark {N : Nat} {w : World} {g cap : Nat} {l : List UInt8} (h : Ow N w (.slice (some ⟨g, 0, none⟩) (l.length + 1) cap) (l ++ [201])) : w.cell? ⟨g, l.length, none⟩ = some (.int .u8 201) ∧ l.length + 1 ≤ cap ∧ cap ≤ maxLen := by
  obtain ⟨a, c, e, h1, h2, h3⟩ := h.sl (Nat.le_refl _)
  have hlen : (l ++ [(201 : UInt8)]).length = l.length + 1 := by simp
  rw [hlen] at e h1
  cases e
  obtain ⟨b, off, e2, hb, hc⟩ := h3.resolve_left (by simp)
  cases e2
  refine ⟨?_, h1, h2⟩
  have := hc l.length (by omega)
  rw [Nat.zero_add] at this
  rw [this]
  simp [encB]

end Go.Proofs.Ytglhjgfaelfleab
