/-
  The code's writer beside blocks that were made behind it, and that stay.
-/
import Derived.Test.YtfnnbfgfmbiababHold
namespace Go.Proofs.Ytfnnbfgfmbiabab
open Go.RowKit Go.Shelf

/-- The code's writer, made at w0's end; the blocks of S are none of its own. -/
structure Ws (w0 w : World) (S : Nat → Prop) (l : List UInt8) : Prop where
  ex : ∃ v, Wtr 129 w0.heap.size w w0.heap.size v l 0 ∧ ∀ k, S k → v.ownBlock ≠ some k
  bel : Below w0.heap.size w0 w
  inS : ∀ k, S k → k < w.heap.size ∧ k ≠ w0.heap.size

theorem Wr.mono {w0 w w' : World} {l : List UInt8} (h : Wr w0 w l) (hB : Below w.heap.size w w') : Wr w0 w' l := by
  obtain ⟨⟨v, hW⟩, hb⟩ := h
  exact ⟨⟨v, hW.below hB (Nat.le_refl _)⟩, hb.trans (hB.mono hb.size)⟩
theorem Wv.mono {w0 w w' : World} {l : List UInt8} (h : Wv w0 w l) (hB : Below w.heap.size w w') : Wv w0 w' l := by
  obtain ⟨⟨v, hW⟩, hb⟩ := h
  exact ⟨⟨v, hW.below hB (Nat.le_refl _)⟩, hb.trans (hB.mono hb.size)⟩
theorem Ws.mono {w0 w w' : World} {S : Nat → Prop} {l : List UInt8} (h : Ws w0 w S l) (hB : Below w.heap.size w w') : Ws w0 w' S l := by
  obtain ⟨⟨v, hW, hv⟩, hb, hS⟩ := h
  exact ⟨⟨v, hW.below hB (Nat.le_refl _), hv⟩, hb.trans (hB.mono hb.size), fun k hk => ⟨Nat.lt_of_lt_of_le (hS k hk).1 hB.size, (hS k hk).2⟩⟩
theorem Ws.wr {w0 w : World} {S : Nat → Prop} {l : List UInt8} (h : Ws w0 w S l) : Wr w0 w l := by
  obtain ⟨⟨v, hW, -⟩, hb, -⟩ := h
  exact ⟨⟨v, hW⟩, hb⟩
/-- New blocks are none of the writer's. -/
theorem Wr.ws {w0 w w' : World} {S : Nat → Prop} {l : List UInt8} (h : Wr w0 w l) (hB : Below w.heap.size w w') (hS : ∀ k, S k → w.heap.size ≤ k ∧ k < w'.heap.size) : Ws w0 w' S l := by
  obtain ⟨⟨v, hW⟩, hb⟩ := h
  have hlt := hW.lt
  refine ⟨⟨v, hW.below hB (Nat.le_refl _), fun k hk e => ?_⟩, hb.trans (hB.mono hb.size), fun k hk => ⟨(hS k hk).2, ?_⟩⟩
  · have := (World.ownsRow.lt hW.ow k e).2
    have := (hS k hk).1
    omega
  · have := (hS k hk).1
    omega
/-- More of them. -/
theorem Ws.more {w0 w w' : World} {S S' : Nat → Prop} {l : List UInt8} (h : Ws w0 w S l) (hB : Below w.heap.size w w') (hS : ∀ k, S' k → S k ∨ (w.heap.size ≤ k ∧ k < w'.heap.size)) : Ws w0 w' S' l := by
  obtain ⟨⟨v, hW, hv⟩, hb, hs⟩ := h
  have hlt := hW.lt
  refine ⟨⟨v, hW.below hB (Nat.le_refl _), fun k hk e => ?_⟩, hb.trans (hB.mono hb.size), fun k hk => ?_⟩
  · rcases hS k hk with h1 | h1
    · exact hv k h1 e
    · have := (World.ownsRow.lt hW.ow k e).2
      omega
  · rcases hS k hk with h1 | h1
    · exact ⟨Nat.lt_of_lt_of_le (hs k h1).1 hB.size, (hs k h1).2⟩
    · exact ⟨h1.2, by omega⟩

theorem Ws.step {w0 w w' : World} {S : Nat → Prop} {l l' : List UInt8} {v v' : Value} (h : Ws w0 w S l) (hW : Wtr 129 w0.heap.size w w0.heap.size v l 0) (hv : ∀ k, S k → v.ownBlock ≠ some k)
    (hW' : Wtr 129 w0.heap.size w' w0.heap.size v' l' 0) (hT : Tn w w' w0.heap.size v) (hS : Son w v v') : Ws w0 w' S l' ∧ ∀ k, S k → w'.heap[k]? = w.heap[k]? := by
  refine ⟨⟨⟨v', hW', fun k hk e => ?_⟩, Tn.bel hW h.bel hT, fun k hk => ⟨Nat.lt_of_lt_of_le (h.inS k hk).1 hT.size, (h.inS k hk).2⟩⟩, fun k hk => hT.block k (h.inS k hk).1 (h.inS k hk).2 (hv k hk)⟩
  have h1 := (h.inS k hk).1
  rcases hS with hS | hS | ⟨i, hS, hi⟩
  · rw [hS] at e; cases e
  · exact hv k hk (hS ▸ e)
  · rw [hS] at e; cases e; omega

theorem wsInt_any (n : Int) {w0 w : World} {S : Nat → Prop} {l : List UInt8} (h : Ws w0 w S l) (hl : l.length ≤ 1073741824) (hn : isNumB n = true) :
    Calls Try.prog 55 #[.pointer (some ⟨w0.heap.size, 0, none⟩), .int .i64 n] w fun r w' => r = .returned (.tuple #[]) ∧ Ws w0 w' S (l ++ numB n.toNat) ∧ ∀ k, S k → w'.heap[k]? = w.heap[k]? := by
  obtain ⟨v, hW, hv⟩ := h.ex
  refine (wwInt_any _ _ v l 0 n w hW hl).mono ?_
  rintro r w' ⟨rfl, v', hW', hT, hS⟩
  rw [wInt_ok l n hn] at hW'
  exact ⟨rfl, h.step hW hv hW' hT hS⟩

theorem wsBool_any (t : Bool) {w0 w : World} {S : Nat → Prop} {l : List UInt8} (h : Ws w0 w S l) (hl : l.length ≤ 1073741824) :
    Calls Try.prog 89 #[.pointer (some ⟨w0.heap.size, 0, none⟩), .bool t] w fun r w' => r = .returned (.tuple #[]) ∧ Ws w0 w' S (l ++ numB (if t then 1 else 0)) ∧ ∀ k, S k → w'.heap[k]? = w.heap[k]? := by
  obtain ⟨v, hW, hv⟩ := h.ex
  refine (wwBool_any _ _ v l 0 t w hW hl).mono ?_
  rintro r w' ⟨rfl, v', hW', hT, hS⟩
  rw [wInt_ok l _ (bool_num t), bool_nat] at hW'
  exact ⟨rfl, h.step hW hv hW' hT hS⟩

/-- Bytes of new memory, behind the writer's. -/
theorem wsBytes_any (most : Int) {w0 w : World} {S : Nat → Prop} {l m : List UInt8} {x : Value} {N : Nat} (h : Ws w0 w S l) (hl : l.length ≤ 1073741824) (hm : m.length ≤ 1073741824) (hx : Ow N w x m) (hN : ∀ k, x.ownBlock = some k → S k) (hmost : (m.length : Int) ≤ most) :
    Calls Try.prog 74 #[.pointer (some ⟨w0.heap.size, 0, none⟩), x, .int .i64 most] w fun r w' => r = .returned (.tuple #[]) ∧ Ws w0 w' S (l ++ (numB m.length ++ m)) ∧ ∀ k, S k → w'.heap[k]? = w.heap[k]? := by
  obtain ⟨v, hW, hv⟩ := h.ex
  have hx' := hx.sl (Nat.le_refl w.heap.size)
  refine (wwBytes_any _ _ w.heap.size v x l m 0 most w hW hl hm hx' (Nat.le_refl _) (fun _ => ⟨fun e => (h.inS _ (hN _ e)).2 rfl, fun k hk => hv k (hN k hk)⟩)).mono ?_
  rintro r w' ⟨rfl, v', hW', hT, hS⟩
  rw [wBytes_ok l m most hmost] at hW'
  exact ⟨rfl, h.step hW hv hW' hT hS⟩
end Go.Proofs.Ytfnnbfgfmbiabab
