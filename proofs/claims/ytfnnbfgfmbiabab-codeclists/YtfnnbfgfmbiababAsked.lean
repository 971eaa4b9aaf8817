/-
  One call of a reader, held against the document's: true, and both stand in one state again.
-/
import Derived.Test.YtfnnbfgfmbiababQtake
namespace Go.Proofs.Ytfnnbfgfmbiabab
open Go.RowKit Go.Shelf

/-- A reader lies on, where another block is turned. -/
theorem Rdr.kept {N : Nat} {w w' : World} {R : Nat} {l : List UInt8} {a e k : Nat} (h : Rdr N w R l a e) (hg : w.grownBy w' (some k)) (hk : R < k ∨ ∃ cs t z, w.heap[k]? = some (.cells cs t z) ∧ t ≠ 5 ∧ t ≠ 149) : Rdr N w' R l a e := by
  have hlt := h.lt
  obtain ⟨hle, v, hR, hO, hvR⟩ := h
  have hne : k ≠ R := by
    rcases hk with hk | ⟨cs, t, z, h1, _, h3⟩
    · omega
    · intro e; subst e; rw [hR] at h1; simp at h1; exact h3 h1.2.1.symm
  refine ⟨hle, v, (hg.block R hlt (fun e => hne (by cases e; rfl))).trans hR, hO.kept hg (.inr ?_), hvR⟩
  rcases hk with hk | ⟨cs, t, z, h1, h2, _⟩
  · intro e; have := hvR k e; omega
  · exact hO.not_at h1 h2

theorem Rdr.at0 {N : Nat} {w : World} {R : Nat} {l : List UInt8} {a e : Nat} (h : Rdr N w R l a e) : ∃ cs z, w.heap[R]? = some (.cells cs 149 z) := by
  obtain ⟨_, v, hR, _⟩ := h; exact ⟨_, _, hR⟩

/-- Both readers in one state. -/
structure Both (N : Nat) (W : World) (R Q : Nat) (v : Value) (l : List UInt8) (a e : Nat) : Prop where
  r : Rdr N W R l a e
  q : Rrd N W Q v l a e
  le : a ≤ l.length

theorem takeAt_le (l : List UInt8) (a e : Nat) (most : Int) (ha : a ≤ l.length) : (takeAt l a e most).2.1 ≤ l.length := by
  have hb := pk_bd l a e
  unfold takeAt
  split
  · exact ha
  · split
    · exact ha
    · split
      · exact ha
      · have := hb.2.2.1 ha; simp only; omega

theorem boolAt_le (l : List UInt8) (a e : Nat) (ha : a ≤ l.length) : (boolAt l a e).2.1 ≤ l.length := by
  have hb := pk_bd l a e
  unfold boolAt
  split
  · exact ha
  · exact hb.2.2.1 ha

theorem Both.ne {N : Nat} {W : World} {R Q : Nat} {v : Value} {l : List UInt8} {a e a' e' : Nat} (h : Rdr N W R l a e) (hq : Rrd N W Q v l a' e') : R ≠ Q := by
  obtain ⟨cs, z, hR⟩ := h.at0
  intro e; subst e
  have := hq.at0
  rw [hR] at this; simp at this

/-- A call of the one, then of the other. -/
theorem Both.two {N : Nat} {w w1 w2 : World} {R Q : Nat} {v : Value} {l : List UInt8} {a e a' e' : Nat} (h : Both N w R Q v l a e) (h1 : Rdr N w1 R l a' e') (g1 : w.grownBy w1 (some R)) (h2 : Rrd N w2 Q v l a' e') (g2 : w1.grownBy w2 (some Q)) (ha : a' ≤ l.length) :
    Both N w2 R Q v l a' e' ∧ Below N w w2 := by
  have hq1 : Rrd N w1 Q v l a e := h.q.kept g1 (by simpa using Both.ne h.r h.q) (fun k e => by cases e; exact h.r.le)
  refine ⟨⟨h1.kept g2 (.inr ⟨_, _, _, hq1.at0, by decide, by decide⟩), h2, ha⟩, ?_⟩
  have hz := h.r.lt
  have hz' := h.r.le
  have hz1 := g1.size
  exact ((Below.refl N w).grown g1 (by omega) (fun k e => by cases e; exact h.r.le)).grown g2 (by omega) (fun k e => by cases e; exact h.q.le)

theorem Both.mid {N : Nat} {w w1 : World} {R Q : Nat} {v : Value} {l : List UInt8} {a e : Nat} (h : Both N w R Q v l a e) (g1 : w.grownBy w1 (some R)) : Rrd N w1 Q v l a e :=
  h.q.kept g1 (by simpa using Both.ne h.r h.q) (fun k e => by cases e; exact h.r.le)

theorem Both.alloc {N : Nat} {w : World} {R Q : Nat} {v : Value} {l : List UInt8} {a e : Nat} (h : Both N w R Q v l a e) (o : Obj) : Both N (w.alloc o) R Q v l a e := by
  have hb : Below w.heap.size w (w.alloc o) := (Below.refl _ w).alloc (Nat.le_refl _) o
  exact ⟨h.r.below hb (Nat.le_refl _), h.q.below hb (Nat.le_refl _), h.le⟩

theorem Both.drewN {N : Nat} {w : World} {R Q : Nat} {v : Value} {l : List UInt8} {a e : Nat} (h : Both N w R Q v l a e) (n : Nat) : Both N (w.drewN n) R Q v l a e := ⟨h.r.drewN n, h.q.drewN n, h.le⟩

/-- One byte of bytes of the call's own is written over. -/
theorem Ow.store {N : Nat} {w : World} {g cap : Nat} {l : List UInt8} (h : Ow N w (.slice (some ⟨g, 0, none⟩) l.length cap) l) (k : Nat) (x : UInt8) :
    Ow N (w.setCell ⟨g, k, none⟩ (encB x)) (.slice (some ⟨g, 0, none⟩) l.length cap) (l.set k x) := by
  rcases h.2 with ⟨h0, h1⟩ | ⟨g', cap', cur, hv, hg, hh, hc1, hc2, hc3, hc4⟩
  · cases h0
  · cases hv
    refine ⟨by simp, .inr ⟨g, cap, cur.set! k (encB x), by simp, hg, ?_, by simpa using hc1, hc2, by simpa using hc3, ?_⟩⟩
    · obtain ⟨hlt, he⟩ := Array.getElem?_eq_some_iff.1 hh
      show (w.heap.modify g _)[g]? = _
      rw [Array.getElem?_eq_getElem (by rw [Array.size_modify]; exact hlt), Array.getElem_modify_self, he]
      simp
    · simp only [Nat.mul_one, List.length_set] at hc4 ⊢
      rw [Array.set!_eq_setIfInBounds, Array.toList_setIfInBounds, List.take_set, hc4, List.map_set]

theorem Ow.can {N : Nat} {w : World} {g cap : Nat} {l : List UInt8} (h : Ow N w (.slice (some ⟨g, 0, none⟩) l.length cap) l) (k : Nat) (hk : k < l.length) : w.cell? ⟨g, k, none⟩ = some (encB (byteAt l k)) ∧ w.frozen? ⟨g, k, none⟩ = false ∧ N ≤ g := by
  obtain ⟨g', e, _, _, _, hc⟩ := h.at0 (by omega)
  cases e
  refine ⟨by have := hc k hk; rw [Nat.zero_add] at this; exact this, ?_, ?_⟩
  · rcases h.2 with ⟨h0, _⟩ | ⟨g', cap', cur, hv, hg, hh, _⟩
    · cases h0
    · cases hv; simp [World.frozen?, hh]
  · exact (World.ownsRow.lt h g rfl).1

theorem Both.set {N : Nat} {w : World} {R Q : Nat} {v : Value} {l : List UInt8} {a e : Nat} (h : Both N w R Q v l a e) (g k : Nat) (u : Value) (hR : R < g) (hQ : Q < g) : Both N (w.setCell ⟨g, k, none⟩ u) R Q v l a e :=
  ⟨h.r.kept (grown_set w g k u) (.inl hR), h.q.kept (grown_set w g k u) (by simp; omega) (fun k e => by cases e; have := h.q.le; omega), h.le⟩

end Go.Proofs.Ytfnnbfgfmbiabab
