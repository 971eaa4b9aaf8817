/-
  Writers and readers that a call makes for itself: what each call leaves, where nothing below was turned.
-/
import Derived.Test.YtglhjgfaelfleabChk
namespace Go.Proofs.Ytglhjgfaelfleab
open Go.RowKit Go.Shelf

/-- What a writer turns lies at its own block or behind. -/
theorem Tn.bel {t : TypeId} {w0 w w' : World} {v : Value} {l : List UInt8} {e : Nat} (h : Wtr t w0.heap.size w w0.heap.size v l e) (hB : Below w0.heap.size w0 w) (hT : Tn w w' w0.heap.size v) : Below w0.heap.size w0 w' := by
  have hz := hB.size
  refine hB.trans ⟨hT.os, hT.tape, hT.output, hT.size, fun k hk => hT.block k (by omega) (by omega) (fun e => ?_)⟩
  have := (World.ownsRow.lt h.ow k e).1
  omega

/-- The code's writer, made at w0's end: it has put l. -/
structure Wr (w0 w : World) (l : List UInt8) : Prop where
  ex : ∃ v, Wtr 81 w0.heap.size w w0.heap.size v l 0
  bel : Below w0.heap.size w0 w
theorem newW_any (w : World) : Calls Try.prog 20 #[] w fun r w' => r = .returned (.pointer (some ⟨w.heap.size, 0, none⟩)) ∧ Wr w w' [] := by
  refine (newWriter_any w).mono ?_
  rintro r w' ⟨rfl, h, hB⟩
  exact ⟨rfl, ⟨_, h⟩, hB⟩

theorem wrInt_any (n : Int) {w0 w : World} {l : List UInt8} (h : Wr w0 w l) (hl : l.length ≤ 1073741824) (hn : isNumB n = true) :
    Calls Try.prog 21 #[.pointer (some ⟨w0.heap.size, 0, none⟩), .int .i64 n] w fun r w' => r = .returned (.tuple #[]) ∧ Wr w0 w' (l ++ numB n.toNat) := by
  obtain ⟨⟨v, hW⟩, hB⟩ := h
  refine (wwInt_any _ _ v l 0 n w hW hl).mono ?_
  rintro r w' ⟨rfl, v', hW', hT, -⟩
  rw [wInt_ok l n hn] at hW'
  exact ⟨rfl, ⟨v', hW'⟩, Tn.bel hW hB hT⟩

theorem bool_num (t : Bool) : isNumB (if t then 1 else 0) = true := by cases t <;> decide
theorem bool_nat (t : Bool) : ((if t then 1 else 0 : Int)).toNat = if t then 1 else 0 := by cases t <;> rfl

theorem wBytes_ok (l m : List UInt8) (most : Int) (h : (m.length : Int) ≤ most) : wBytes l 0 m most = (l ++ (numB m.length ++ m), 0) := by
  unfold wBytes; rw [if_neg (by simp), if_neg (by omega)]; simp
theorem vBytes_ok (l m : List UInt8) (most : Int) (h : (m.length : Int) ≤ most) : vBytes l 0 m most = (l ++ (numB m.length ++ m), 0) := by
  unfold vBytes; rw [if_neg (by simp), if_neg (by omega)]; simp

theorem wrBytes_any (most : Int) {w0 w : World} {l m : List UInt8} {x : Value} {M : Nat} (h : Wr w0 w l) (hl : l.length ≤ 1073741824) (hm : m.length ≤ 1073741824) (hx : Sl M w0 x m) (hM : M ≤ w0.heap.size) (hmost : (m.length : Int) ≤ most) :
    Calls Try.prog 38 #[.pointer (some ⟨w0.heap.size, 0, none⟩), x, .int .i64 most] w fun r w' => r = .returned (.tuple #[]) ∧ Wr w0 w' (l ++ (numB m.length ++ m)) := by
  obtain ⟨⟨v, hW⟩, hB⟩ := h
  have hz := hB.size
  have hx' := hx.below (hB.mono hM)
  refine (wwBytes_any _ _ M v x l m 0 most w hW hl hm hx' (by omega) (apart_out hW hx' hM)).mono ?_
  rintro r w' ⟨rfl, v', hW', hT, -⟩
  rw [wBytes_ok l m most hmost] at hW'
  exact ⟨rfl, ⟨v', hW'⟩, Tn.bel hW hB hT⟩

theorem wrText_any (most : Int) {w0 w : World} {l m : List UInt8} (h : Wr w0 w l) (hl : l.length ≤ 1073741824) (hm : m.length ≤ 1073741824) (hmost : (m.length : Int) ≤ most) :
    Calls Try.prog 23 #[.pointer (some ⟨w0.heap.size, 0, none⟩), .string ⟨m.toArray⟩, .int .i64 most] w fun r w' => r = .returned (.tuple #[]) ∧ Wr w0 w' (l ++ (numB m.length ++ m)) := by
  obtain ⟨⟨v, hW⟩, hB⟩ := h
  refine (wwText_any _ _ v l m 0 most w hW hl hm).mono ?_
  rintro r w' ⟨rfl, v', hW', hT, -⟩
  rw [wBytes_ok l m most hmost] at hW'
  exact ⟨rfl, ⟨v', hW'⟩, Tn.bel hW hB hT⟩

theorem wrDone_any {w0 w : World} {l : List UInt8} (h : Wr w0 w l) (hl : l.length ≤ 1073741824) :
    Calls Try.prog 24 #[.pointer (some ⟨w0.heap.size, 0, none⟩)] w fun r w' => ∃ u, r = .returned (.tuple #[u, .int .i64 0]) ∧ Ow w0.heap.size w' u l ∧ Below w0.heap.size w0 w' := by
  obtain ⟨⟨v, hW⟩, hB⟩ := h
  have hz := hB.size
  refine (wwDone_any _ _ v l 0 w hW hl).mono ?_
  rintro r w' ⟨u, rfl, hO, hB'⟩
  exact ⟨u, rfl, hO.base hz, hB.trans (hB'.mono hz)⟩

end Go.Proofs.Ytglhjgfaelfleab
