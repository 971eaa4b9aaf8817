/-
  A reader of wire: Bytes and Text.
-/
import Derived.Test.YtglhjgfaelfleabRdr
import Derived.Laws.IdiomStrings
namespace Go.Proofs.Ytglhjgfaelfleab
open Go.RowKit Go.Shelf

/-- What take finds: the bytes, the place behind them, the error. -/
def takeAt (l : List UInt8) (a e : Nat) (most : Int) : List UInt8 × Nat × Nat :=
  if (pk l a e).2.2 ≠ 0 then ([], a, (pk l a e).2.2)
  else if max most 0 < ((pk l a e).1 : Int) then ([], a, 3)
  else if l.length - (a + (pk l a e).2.1) < (pk l a e).1 then ([], a, 2)
  else ((l.drop (a + (pk l a e).2.1)).take (pk l a e).1, a + (pk l a e).2.1 + (pk l a e).1, 0)

theorem intAt_in (l : List UInt8) (a : Nat) (h : (intAt l a).2.2 = 0) : a < l.length := by
  unfold intAt at h
  split at h
  · simp at h
  · omega

theorem pk_in (l : List UInt8) (a e : Nat) (h : (pk l a e).2.2 = 0) : a < l.length := by
  unfold pk at h
  split at h
  · exact intAt_in l a h
  · rename_i h'; exact absurd h h'

/-- The reader's own bytes, at an address. -/
theorem Ow.at0 {N : Nat} {w : World} {b : Option Addr} {cap : Nat} {l : List UInt8} (h : Ow N w (.slice b l.length cap) l) (hl : 0 < l.length) : ∃ g, b = some ⟨g, 0, none⟩ ∧ g < w.heap.size ∧ l.length ≤ cap ∧ cap ≤ maxLen ∧ CellsAt w g 0 l := by
  have h' := h.sl (M := w.heap.size) (Nat.le_refl _)
  rcases h.2 with ⟨h0, h1⟩ | ⟨g, cap', cur, hv, hg, hh, hc1, hc2, hc3, hc4⟩
  · omega
  · cases hv
    obtain ⟨a, c, e, -, -, h3⟩ := h'
    cases e
    obtain ⟨b', off, e2, hb, hc⟩ := h3.resolve_left (by intro h; rw [h] at hl; simp at hl)
    cases e2
    exact ⟨g, rfl, hb, hc1, hc2, hc⟩

theorem Ow.base {N N' : Nat} {w : World} {v : Value} {l : List UInt8} (h : Ow N w v l) (hN : N' ≤ N) : Ow N' w v l := by
  refine ⟨h.1, ?_⟩
  rcases h.2 with h2 | ⟨g, cap, cur, hv, hg, r⟩
  · exact .inl h2
  · exact .inr ⟨g, cap, cur, hv, by omega, r⟩

theorem Sl.nil (M : Nat) (w : World) : Sl M w (.slice none 0 0) [] := ⟨none, 0, rfl, by simp, by unfold maxLen; omega, .inl rfl⟩

theorem sl_zero {M : Nat} {w : World} (a : Option Addr) (n f : Nat) (l : List UInt8) (hn : n = 0) : Sl M w (.slice a n 0) ((l.drop f).take n) := by
  subst hn
  exact ⟨a, 0, by simp, by simp, by unfold maxLen; omega, .inl (by simp)⟩

theorem grown_drewN (w : World) (n : Nat) : w.grownBy (w.drewN n) none := ⟨rfl, rfl, rfl, Nat.le_refl _, fun _ _ _ => rfl⟩

/-- A piece of the reader's bytes. -/
theorem take_sl {w1 : World} {R g cap f n : Nat} {l : List UInt8} {u : Value} (hgl : g < w1.heap.size) (hne : g ≠ R) (hcm : cap ≤ maxLen) (hlc : l.length ≤ cap) (hfn : f + n ≤ l.length) (hc : CellsAt w1 g 0 l) (nq : Nat) :
    Sl (((w1.setCell ⟨R, 1, none⟩ u).drewN nq)).heap.size ((w1.setCell ⟨R, 1, none⟩ u).drewN nq) (.slice (some ⟨g, f, none⟩) n (cap - f)) ((l.drop f).take n) := by
  have hlen : ((l.drop f).take n).length = n := by simp; omega
  refine ⟨some ⟨g, f, none⟩, cap - f, by rw [hlen], by rw [hlen]; omega, by omega, .inr ⟨g, f, rfl, ?_, fun i hi => ?_⟩⟩
  · show g < (w1.setCell ⟨R, 1, none⟩ u).heap.size
    simpa [World.setCell] using hgl
  · rw [hlen] at hi
    have h1 : ((w1.setCell ⟨R, 1, none⟩ u).drewN nq).cell? ⟨g, f + i, none⟩ = w1.cell? ⟨g, f + i, none⟩ := by
      show (w1.setCell ⟨R, 1, none⟩ u).cell? ⟨g, f + i, none⟩ = _
      exact World.cell?_of_block (Below.heap_setCell _ _ _ g hne)
    have h2 := hc (f + i) (by omega)
    rw [Nat.zero_add] at h2
    rw [h1, h2]
    simp [encB, byteAt, hi, List.getElem?_drop]

/-- 'string(b)' of bytes in memory. -/
theorem conv_sl {M : Nat} {w : World} {v : Value} {l : List UInt8} (h : Sl M w v l) : (convert 35 9 v).run Try.prog w = .ok (.string ⟨l.toArray⟩) w := by
  obtain ⟨a, cap, rfl, _, _, h3⟩ := h
  rcases h3 with rfl | ⟨b, off, rfl, hb, hc⟩
  · cases a with
    | none =>
      show (convert 35 9 (.slice none 0 cap)).run Try.prog w = _
      rw [run_convert_bytes_string w 35 9 5 none 0 cap Try.underlying35 Try.underlying5 Try.underlying9]
      simp [Conv.bytesToString]
      rfl
    | some ad => exact run_convert_bytes_back w 35 9 5 ad cap [] Try.underlying35 Try.underlying5 Try.underlying9 (by simp)
  · refine run_convert_bytes_back w 35 9 5 _ cap l Try.underlying35 Try.underlying5 Try.underlying9 (fun j hj => ?_)
    rw [Addr.add_lit, hc j hj]
    simp [encB, hj]

end Go.Proofs.Ytglhjgfaelfleab
