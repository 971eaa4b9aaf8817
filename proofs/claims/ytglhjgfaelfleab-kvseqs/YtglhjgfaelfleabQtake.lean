/-
  The document's own reader: Bytes and Text.
-/
import Derived.Test.YtglhjgfaelfleabRrd
import Derived.Deep.RegionHeld3
namespace Go.Proofs.Ytglhjgfaelfleab
open Go.RowKit Go.Shelf

theorem Sl.mid' {M : Nat} {w : World} {b off cap : Nat} {l : List UInt8} (h : Sl M w (.slice (some ⟨b, off, none⟩) l.length cap) l) (a k : Nat) (hk : a + k ≤ l.length) : Sl M w (.slice (some ⟨b, off + a, none⟩) k (cap - a)) ((l.drop a).take k) := by
  obtain ⟨a', c, e, h1, h2, h3⟩ := h
  cases e
  have hlen : ((l.drop a).take k).length = k := by simp; omega
  refine ⟨_, _, by rw [hlen], by omega, by omega, ?_⟩
  rcases h3 with h3 | ⟨b', off', e, hb, hc⟩
  · subst h3; exact .inl (by simp)
  · cases e
    refine .inr ⟨b, off + a, rfl, hb, fun i hi => ?_⟩
    rw [hlen] at hi
    rw [Nat.add_assoc, hc (a + i) (by omega)]
    simp [hi, List.getElem?_drop]

end Go.Proofs.Ytglhjgfaelfleab
