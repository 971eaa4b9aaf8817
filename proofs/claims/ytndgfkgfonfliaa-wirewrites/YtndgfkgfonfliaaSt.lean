/-
  A reader of what a writer told, beside a second writer: what each call leaves of them.
-/
import Derived.Test.YtndgfkgfonfliaaTold
import Derived.Test.YtndgfkgfonfliaaAsked
namespace Go.Proofs.Ytndgfkgfonfliaa
open Go.RowKit Go.Shelf

theorem Tn.below {t : TypeId} {N M : Nat} {w w' : World} {B : Nat} {v : Value} {l : List UInt8} {e : Nat} (hT : Tn w w' B v) (h : Wtr t N w B v l e) (hM : M ≤ N) : Below M w w' := by
  have hle := h.le
  have hlt := h.lt
  exact ⟨hT.os, hT.tape, hT.output, hT.size, fun k hk => hT.block k (by omega) (by omega) (fun e => by have := (World.ownsRow.lt h.ow k e).1; omega)⟩

theorem Ow.tn {N : Nat} {w w' : World} {B : Nat} {v u : Value} {l : List UInt8} (h : Ow N w u l) (hT : Tn w w' B v) (hB : u.ownBlock ≠ some B) (hv : ∀ k, u.ownBlock = some k → v.ownBlock ≠ some k) : Ow N w' u l := by
  refine ⟨h.1, ?_⟩
  rcases h.2 with h2 | ⟨g, cap, cur, hu, hg, hh, r⟩
  · exact .inl h2
  · subst hu
    exact .inr ⟨g, cap, cur, rfl, hg, (hT.block g (Array.getElem?_eq_some_iff.1 hh).1 (fun e => hB (by rw [e]; rfl)) (hv g rfl)).trans hh, r⟩

theorem Rdr.tn {N : Nat} {w w' : World} {R A : Nat} {v : Value} {l : List UInt8} {a e : Nat} (h : Rdr N w R l a e) (hT : Tn w w' A v) (hA : R < A) (hv : ∀ k, v.ownBlock = some k → R < k) : Rdr N w' R l a e := by
  have hlt := h.lt
  obtain ⟨hle, x, hR, hO, hxR⟩ := h
  refine ⟨hle, x, (hT.block R hlt (by omega) (fun e => by have := hv R e; omega)).trans hR, hO.tn hT (fun e => by have := hxR A e; omega) (fun k hk e => by have := hxR k hk; have := hv k e; omega), hxR⟩

/-- The reader, the second writer, and the first one's bytes. -/
structure St (N3 N4 N5 R A : Nat) (u : Value) (bl : List UInt8) (w : World) (v : Value) (lw : List UInt8) (a : Nat) : Prop where
  r : Rdr N4 w R bl a 0
  wt : Wtr 79 N5 w A v lw 0
  o : Ow N3 w u bl
  hu : ∀ k, u.ownBlock = some k → k < R
  hR : R < N5

theorem St.v_gt {N3 N4 N5 R A : Nat} {u v : Value} {bl lw : List UInt8} {w : World} {a : Nat} (h : St N3 N4 N5 R A u bl w v lw a) : ∀ k, v.ownBlock = some k → R < k := fun k hk => by
  have := (World.ownsRow.lt h.wt.ow k hk).1
  have := h.hR
  omega

theorem St.read {N3 N4 N5 R A : Nat} {u v : Value} {bl lw : List UInt8} {w w1 : World} {a a' : Nat} (h : St N3 N4 N5 R A u bl w v lw a) (h1 : Rdr N4 w1 R bl a' 0) (g : w.grownBy w1 (some R)) : St N3 N4 N5 R A u bl w1 v lw a' := by
  have hT : Tn w w1 R (.slice none 0 0) := Tn.of_grown g (fun k e => by cases e; exact .inl rfl)
  have hA := h.wt.le
  have hR := h.hR
  refine ⟨h1, h.wt.kept hT (by omega) (by simp [Value.ownBlock]) (fun e => by have := h.v_gt R e; omega) (fun k _ => by simp [Value.ownBlock]), h.o.kept g ?_, h.hu, h.hR⟩
  cases hu : u.ownBlock with
  | none => exact .inl rfl
  | some j => exact .inr (fun e => by cases e; have := h.hu R hu; omega)

theorem St.write {N3 N4 N5 R A : Nat} {u v v1 : Value} {bl lw lw' : List UInt8} {w w1 : World} {a : Nat} (h : St N3 N4 N5 R A u bl w v lw a) (h1 : Wtr 79 N5 w1 A v1 lw' 0) (hT : Tn w w1 A v) : St N3 N4 N5 R A u bl w1 v1 lw' a := by
  have hA := h.wt.le
  have hR := h.hR
  refine ⟨h.r.tn hT (by omega) h.v_gt, h1, h.o.tn hT (fun e => by have := h.hu A e; omega) (fun k hk e => by have := h.hu k hk; have := h.v_gt k e; omega), h.hu, h.hR⟩

theorem St.below {N3 N4 N5 R A : Nat} {u v : Value} {bl lw : List UInt8} {w w1 : World} {a : Nat} (h : St N3 N4 N5 R A u bl w v lw a) (hB : Below w.heap.size w w1) : St N3 N4 N5 R A u bl w1 v lw a :=
  ⟨h.r.below hB (Nat.le_refl _), h.wt.below hB (Nat.le_refl _), h.o.below hB (Nat.le_refl _), h.hu, h.hR⟩

theorem St.lt {N3 N4 N5 R A : Nat} {u v : Value} {bl lw : List UInt8} {w : World} {a : Nat} (h : St N3 N4 N5 R A u bl w v lw a) : N5 ≤ w.heap.size := by have := h.wt.lt; have := h.wt.le; omega

/-- What was there below the second writer's and the reader's memory. -/
theorem St.under {N3 N4 N5 R A M : Nat} {u v : Value} {bl lw : List UInt8} {w w1 : World} {a : Nat} (h : St N3 N4 N5 R A u bl w v lw a) (hM : M ≤ N4) (g : w.grownBy w1 (some R)) : Below M w w1 := by
  have := h.r.le
  have := h.r.lt
  exact (Below.refl M w).grown g (by omega) (fun k e => by cases e; omega)

theorem St.under2 {N3 N4 N5 R A M : Nat} {u v : Value} {bl lw : List UInt8} {w w1 : World} {a : Nat} (h : St N3 N4 N5 R A u bl w v lw a) (hM : M ≤ N4) (hT : Tn w w1 A v) : Below M w w1 := by
  have := h.r.le
  have := h.hR
  exact hT.below h.wt (by omega)

/-- What the first k puts made stands at the front of what all made. -/
theorem told_front (D : Nat → PutD) : ∀ {k n}, k ≤ n → (told D n).2 = 0 → ∃ rest, (told D n).1 = (told D k).1 ++ rest
  | k, 0, h, _ => by have : k = 0 := by omega
                     subst this; exact ⟨[], by simp⟩
  | k, n + 1, h, h0 => by
    by_cases e : k = n + 1
    · subst e; exact ⟨[], by simp⟩
    · have hn := told_ok D (Nat.le_succ n) h0
      obtain ⟨rest, hr⟩ := told_front D (show k ≤ n by omega) hn
      exact ⟨rest ++ encP (D n), by rw [told, (stepP_ok _ _ h0 hn).1, hr, List.append_assoc]⟩

theorem told_step (D : Nat → PutD) {k n : Nat} (h : k < n) (h0 : (told D n).2 = 0) :
    (told D (k + 1)).1 = (told D k).1 ++ encP (D k) ∧ (∃ rest, (told D n).1 = (told D k).1 ++ (encP (D k) ++ rest)) ∧ ((D k).kind = 0 → isNumB (D k).n = true) ∧ ((D k).kind = 2 ∨ (D k).kind = 3 → ((D k).bs.length : Int) ≤ max (D k).most 0) := by
  have h1 := told_ok D (show k + 1 ≤ n from h) h0
  have h2 := told_ok D (show k ≤ n by omega) h0
  obtain ⟨e1, e2, e3⟩ := stepP_ok (told D k) (D k) h1 h2
  obtain ⟨rest, hr⟩ := told_front D (show k + 1 ≤ n from h) h0
  refine ⟨e1, ⟨rest, ?_⟩, e2, e3⟩
  rw [hr, show (told D (k + 1)).1 = _ from e1, List.append_assoc]
end Go.Proofs.Ytndgfkgfonfliaa
