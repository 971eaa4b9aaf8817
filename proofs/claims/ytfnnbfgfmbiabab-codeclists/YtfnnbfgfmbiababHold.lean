/-
  Writers and readers that a call makes for itself: what each call leaves, where nothing below was turned.
-/
import Derived.Test.YtfnnbfgfmbiababChk
namespace Go.Proofs.Ytfnnbfgfmbiabab
open Go.RowKit Go.Shelf

/-- What a writer turns lies at its own block or behind. -/
theorem Tn.bel {t : TypeId} {w0 w w' : World} {v : Value} {l : List UInt8} {e : Nat} (h : Wtr t w0.heap.size w w0.heap.size v l e) (hB : Below w0.heap.size w0 w) (hT : Tn w w' w0.heap.size v) : Below w0.heap.size w0 w' := by
  have hz := hB.size
  refine hB.trans ⟨hT.os, hT.tape, hT.output, hT.size, fun k hk => hT.block k (by omega) (by omega) (fun e => ?_)⟩
  have := (World.ownsRow.lt h.ow k e).1
  omega

/-- The code's writer, made at w0's end: it has put l. -/
structure Wr (w0 w : World) (l : List UInt8) : Prop where
  ex : ∃ v, Wtr 129 w0.heap.size w w0.heap.size v l 0
  bel : Below w0.heap.size w0 w
/-- The document's writer. -/
structure Wv (w0 w : World) (l : List UInt8) : Prop where
  ex : ∃ v, Wtr 86 w0.heap.size w w0.heap.size v l 0
  bel : Below w0.heap.size w0 w

theorem newW_any (w : World) : Calls Try.prog 32 #[] w fun r w' => r = .returned (.pointer (some ⟨w.heap.size, 0, none⟩)) ∧ Wr w w' [] := by
  refine (newWriter_any w).mono ?_
  rintro r w' ⟨rfl, h, hB⟩
  exact ⟨rfl, ⟨_, h⟩, hB⟩

theorem newV {w : World} : Wv w (w.alloc (.cells #[.slice none 0 0, .int .i64 0] 86)) [] :=
  ⟨⟨_, Nat.le_refl _, World.alloc_heap_new w _, Ow.nil _ _⟩, (Below.refl _ w).alloc (Nat.le_refl _) _⟩

theorem wrInt_any (n : Int) {w0 w : World} {l : List UInt8} (h : Wr w0 w l) (hl : l.length ≤ 1073741824) (hn : isNumB n = true) :
    Calls Try.prog 55 #[.pointer (some ⟨w0.heap.size, 0, none⟩), .int .i64 n] w fun r w' => r = .returned (.tuple #[]) ∧ Wr w0 w' (l ++ numB n.toNat) := by
  obtain ⟨⟨v, hW⟩, hB⟩ := h
  refine (wwInt_any _ _ v l 0 n w hW hl).mono ?_
  rintro r w' ⟨rfl, v', hW', hT, -⟩
  rw [wInt_ok l n hn] at hW'
  exact ⟨rfl, ⟨v', hW'⟩, Tn.bel hW hB hT⟩

theorem wvInt_any (n : Int) {w0 w : World} {l : List UInt8} (h : Wv w0 w l) (hl : l.length ≤ 1073741824) (hn : isNumB n = true) :
    Calls Try.prog 36 #[.pointer (some ⟨w0.heap.size, 0, none⟩), .int .i64 n] w fun r w' => r = .returned (.tuple #[]) ∧ Wv w0 w' (l ++ numB n.toNat) := by
  obtain ⟨⟨v, hW⟩, hB⟩ := h
  refine (vvInt_any _ _ v l 0 n w hW hl).mono ?_
  rintro r w' ⟨rfl, v', hW', hT, -⟩
  rw [vInt_ok l n hn] at hW'
  exact ⟨rfl, ⟨v', hW'⟩, Tn.bel hW hB hT⟩

theorem bool_num (t : Bool) : isNumB (if t then 1 else 0) = true := by cases t <;> decide
theorem bool_nat (t : Bool) : ((if t then 1 else 0 : Int)).toNat = if t then 1 else 0 := by cases t <;> rfl

theorem wrBool_any (t : Bool) {w0 w : World} {l : List UInt8} (h : Wr w0 w l) (hl : l.length ≤ 1073741824) :
    Calls Try.prog 89 #[.pointer (some ⟨w0.heap.size, 0, none⟩), .bool t] w fun r w' => r = .returned (.tuple #[]) ∧ Wr w0 w' (l ++ numB (if t then 1 else 0)) := by
  obtain ⟨⟨v, hW⟩, hB⟩ := h
  refine (wwBool_any _ _ v l 0 t w hW hl).mono ?_
  rintro r w' ⟨rfl, v', hW', hT, -⟩
  rw [wInt_ok l _ (bool_num t), bool_nat] at hW'
  exact ⟨rfl, ⟨v', hW'⟩, Tn.bel hW hB hT⟩

theorem wBytes_ok (l m : List UInt8) (most : Int) (h : (m.length : Int) ≤ most) : wBytes l 0 m most = (l ++ (numB m.length ++ m), 0) := by
  unfold wBytes; rw [if_neg (by simp), if_neg (by omega)]; simp
theorem vBytes_ok (l m : List UInt8) (most : Int) (h : (m.length : Int) ≤ most) : vBytes l 0 m most = (l ++ (numB m.length ++ m), 0) := by
  unfold vBytes; rw [if_neg (by simp), if_neg (by omega)]; simp

theorem wrBytes_any (most : Int) {w0 w : World} {l m : List UInt8} {x : Value} {M : Nat} (h : Wr w0 w l) (hl : l.length ≤ 1073741824) (hm : m.length ≤ 1073741824) (hx : Sl M w0 x m) (hM : M ≤ w0.heap.size) (hmost : (m.length : Int) ≤ most) :
    Calls Try.prog 74 #[.pointer (some ⟨w0.heap.size, 0, none⟩), x, .int .i64 most] w fun r w' => r = .returned (.tuple #[]) ∧ Wr w0 w' (l ++ (numB m.length ++ m)) := by
  obtain ⟨⟨v, hW⟩, hB⟩ := h
  have hz := hB.size
  have hx' := hx.below (hB.mono hM)
  refine (wwBytes_any _ _ M v x l m 0 most w hW hl hm hx' (by omega) (apart_out hW hx' hM)).mono ?_
  rintro r w' ⟨rfl, v', hW', hT, -⟩
  rw [wBytes_ok l m most hmost] at hW'
  exact ⟨rfl, ⟨v', hW'⟩, Tn.bel hW hB hT⟩

theorem wvBytes_any (most : Int) {w0 w : World} {l m : List UInt8} {x : Value} {M : Nat} (h : Wv w0 w l) (hl : l.length ≤ 1073740824) (hm : m.length ≤ 1073741824) (hx : Sl M w0 x m) (hM : M ≤ w0.heap.size) (hmost : (m.length : Int) ≤ most) :
    Calls Try.prog 37 #[.pointer (some ⟨w0.heap.size, 0, none⟩), x, .int .i64 most] w fun r w' => r = .returned (.tuple #[]) ∧ Wv w0 w' (l ++ (numB m.length ++ m)) := by
  obtain ⟨⟨v, hW⟩, hB⟩ := h
  have hz := hB.size
  have hx' := hx.below (hB.mono hM)
  refine (vvBytes_any _ _ M v x l m 0 most w hW hl hm hx' (by omega) (apart_out hW hx' hM)).mono ?_
  rintro r w' ⟨rfl, v', hW', hT, -⟩
  rw [vBytes_ok l m most hmost] at hW'
  exact ⟨rfl, ⟨v', hW'⟩, Tn.bel hW hB hT⟩

theorem wrText_any (most : Int) {w0 w : World} {l m : List UInt8} (h : Wr w0 w l) (hl : l.length ≤ 1073741824) (hm : m.length ≤ 1073741824) (hmost : (m.length : Int) ≤ most) :
    Calls Try.prog 136 #[.pointer (some ⟨w0.heap.size, 0, none⟩), .string ⟨m.toArray⟩, .int .i64 most] w fun r w' => r = .returned (.tuple #[]) ∧ Wr w0 w' (l ++ (numB m.length ++ m)) := by
  obtain ⟨⟨v, hW⟩, hB⟩ := h
  refine (wwText_any _ _ v l m 0 most w hW hl hm).mono ?_
  rintro r w' ⟨rfl, v', hW', hT, -⟩
  rw [wBytes_ok l m most hmost] at hW'
  exact ⟨rfl, ⟨v', hW'⟩, Tn.bel hW hB hT⟩

theorem wrDone_any {w0 w : World} {l : List UInt8} (h : Wr w0 w l) (hl : l.length ≤ 1073741824) :
    Calls Try.prog 34 #[.pointer (some ⟨w0.heap.size, 0, none⟩)] w fun r w' => ∃ u, r = .returned (.tuple #[u, .int .i64 0]) ∧ Ow w0.heap.size w' u l ∧ Below w0.heap.size w0 w' := by
  obtain ⟨⟨v, hW⟩, hB⟩ := h
  have hz := hB.size
  refine (wwDone_any _ _ v l 0 w hW hl).mono ?_
  rintro r w' ⟨u, rfl, hO, hB'⟩
  exact ⟨u, rfl, hO.base hz, hB.trans (hB'.mono hz)⟩

theorem wvDone_any {w0 w : World} {l : List UInt8} (h : Wv w0 w l) :
    Calls Try.prog 38 #[.pointer (some ⟨w0.heap.size, 0, none⟩)] w fun r w' => ∃ u, r = .returned (.tuple #[u, .int .i64 0]) ∧ Sl w'.heap.size w' u l ∧ Below w0.heap.size w0 w' := by
  obtain ⟨⟨v, hW⟩, hB⟩ := h
  refine (vvDone_any _ _ v l 0 w hW).mono ?_
  rintro r w' ⟨u, rfl, hS, n, rfl⟩
  rw [if_pos rfl] at hS
  exact ⟨u, rfl, hS, hB.trans ⟨rfl, rfl, rfl, Nat.le_refl _, fun _ _ => rfl⟩⟩

/-- The code's reader of l, made behind w0. -/
structure Rr (w0 w : World) (R : Nat) (l : List UInt8) (p e : Nat) : Prop where
  rdr : Rdr w0.heap.size w R l p e
  bel : Below w0.heap.size w0 w
  len : l.length ≤ 1099511627776
  le : p ≤ l.length
/-- The document's reader. -/
structure Rq (w0 w : World) (Q : Nat) (v : Value) (l : List UInt8) (p e : Nat) : Prop where
  rrd : Rrd w0.heap.size w Q v l p e
  bel : Below w0.heap.size w0 w
  len : l.length ≤ 20000
  le : p ≤ l.length

theorem Rr.mono {w0 w w' : World} {R : Nat} {l : List UInt8} {p e : Nat} (h : Rr w0 w R l p e) (hB : Below w.heap.size w w') : Rr w0 w' R l p e :=
  ⟨h.rdr.below hB (Nat.le_refl _), h.bel.trans (hB.mono h.bel.size), h.len, h.le⟩
theorem Rq.mono {w0 w w' : World} {Q : Nat} {v : Value} {l : List UInt8} {p e : Nat} (h : Rq w0 w Q v l p e) (hB : Below w.heap.size w w') : Rq w0 w' Q v l p e :=
  ⟨h.rrd.below hB (Nat.le_refl _), h.bel.trans (hB.mono h.bel.size), h.len, h.le⟩

theorem Rr.turn {w0 w w' : World} {R : Nat} {l : List UInt8} {p e p' e' : Nat} (h : Rr w0 w R l p e) (h' : Rdr w0.heap.size w' R l p' e') (hg : w.grownBy w' (some R)) (hp : p' ≤ l.length) : Rr w0 w' R l p' e' :=
  ⟨h', h.bel.grown hg h.bel.size (fun k e => by cases e; exact h.rdr.le), h.len, hp⟩
theorem Rq.turn {w0 w w' : World} {Q : Nat} {v : Value} {l : List UInt8} {p e p' e' : Nat} (h : Rq w0 w Q v l p e) (h' : Rrd w0.heap.size w' Q v l p' e') (hg : w.grownBy w' (some Q)) (hp : p' ≤ l.length) : Rq w0 w' Q v l p' e' :=
  ⟨h', h.bel.grown hg h.bel.size (fun k e => by cases e; exact h.rrd.le), h.len, hp⟩

theorem newR_any (w : World) {M : Nat} {v : Value} {l : List UInt8} (hv : Sl M w v l) (hl : l.length ≤ 1099511627776) :
    Calls Try.prog 65 #[v] w fun r w' => ∃ R, r = .returned (.pointer (some ⟨R, 0, none⟩)) ∧ Rr w w' R l 0 0 := by
  refine (newReader_any M v l w hv hl).mono ?_
  rintro r w' ⟨R, rfl, h, hB⟩
  exact ⟨R, rfl, h, hB, hl, Nat.zero_le _⟩

theorem newQ {M : Nat} {w : World} {v : Value} {l : List UInt8} (hv : Sl M w v l) (hM : M ≤ w.heap.size) (hl : l.length ≤ 20000) : Rq w (w.alloc (.cells #[v, .int .i64 0, .int .i64 0] 135)) w.heap.size v l 0 0 := by
  have hB : Below w.heap.size w (w.alloc (.cells #[v, .int .i64 0, .int .i64 0] 135)) := (Below.refl _ w).alloc (Nat.le_refl _) _
  exact ⟨⟨Nat.le_refl _, World.alloc_heap_new w _, (hv.below (hB.mono hM)).mono hM⟩, hB, hl, Nat.zero_le _⟩

theorem rrInt_any {w0 w : World} {R : Nat} {l : List UInt8} {a e n a' e' : Nat} (h : Rr w0 w R l a e) (hr : rdN l (a, e) = (n, (a', e'))) :
    Calls Try.prog 67 #[.pointer (some ⟨R, 0, none⟩)] w fun r w' => r = .returned (.int .i64 (n : Int)) ∧ Rr w0 w' R l a' e' := by
  have hle := rdN_le l (a, e) h.le
  refine (rInt_any _ R l a e w h.rdr h.len h.le).mono ?_
  rintro r w' ⟨rfl, h', hg⟩
  rw [hr] at hle
  simp only [rdN, Prod.mk.injEq] at hr
  obtain ⟨rfl, rfl, rfl⟩ := hr
  exact ⟨rfl, h.turn h' hg hle⟩

theorem rqInt_any {w0 w : World} {Q : Nat} {v : Value} {l : List UInt8} {a e n a' e' : Nat} (h : Rq w0 w Q v l a e) (hr : rdN l (a, e) = (n, (a', e'))) :
    Calls Try.prog 81 #[.pointer (some ⟨Q, 0, none⟩)] w fun r w' => r = .returned (.int .i64 (n : Int)) ∧ Rq w0 w' Q v l a' e' := by
  have hle := rdN_le l (a, e) h.le
  refine (qInt_any _ Q v l a e w h.rrd h.len h.le).mono ?_
  rintro r w' ⟨rfl, h', hg⟩
  rw [hr] at hle
  simp only [rdN, Prod.mk.injEq] at hr
  obtain ⟨rfl, rfl, rfl⟩ := hr
  exact ⟨rfl, h.turn h' hg hle⟩

theorem rrBytes_any {w0 w : World} {R : Nat} {l t : List UInt8} {a e a' e' : Nat} (most : Int) (h : Rr w0 w R l a e) (hr : rdB l most (a, e) = (t, (a', e'))) :
    Calls Try.prog 107 #[.pointer (some ⟨R, 0, none⟩), .int .i64 most] w fun r w' => ∃ v, r = .returned v ∧ Ow w.heap.size w' v t ∧ Rr w0 w' R l a' e' ∧ w.heap.size ≤ w'.heap.size := by
  have hle := rdB_le l most (a, e) h.le
  refine (rBytes_any _ R l a e most w h.rdr h.len h.le).mono ?_
  rintro r w' ⟨v, rfl, hO, h', hg⟩
  rw [hr] at hle
  simp only [rdB, Prod.mk.injEq] at hr
  obtain ⟨rfl, rfl, rfl⟩ := hr
  exact ⟨v, rfl, hO, h.turn h' hg hle, hg.size⟩

theorem rqBytes_any {w0 w : World} {Q : Nat} {v : Value} {l t : List UInt8} {a e a' e' : Nat} (most : Int) (h : Rq w0 w Q v l a e) (hr : rdB l most (a, e) = (t, (a', e'))) :
    Calls Try.prog 83 #[.pointer (some ⟨Q, 0, none⟩), .int .i64 most] w fun r w' => ∃ u, r = .returned u ∧ Sl w'.heap.size w' u t ∧ Rq w0 w' Q v l a' e' := by
  have hle := rdB_le l most (a, e) h.le
  refine (qBytes_any _ Q v l a e most w h.rrd h.len h.le).mono ?_
  rintro r w' ⟨u, rfl, hS, h', hg⟩
  rw [hr] at hle
  simp only [rdB, Prod.mk.injEq] at hr
  obtain ⟨rfl, rfl, rfl⟩ := hr
  exact ⟨u, rfl, hS, h.turn h' hg hle⟩

theorem rrText_any {w0 w : World} {R : Nat} {l t : List UInt8} {a e a' e' : Nat} (most : Int) (h : Rr w0 w R l a e) (hr : rdB l most (a, e) = (t, (a', e'))) :
    Calls Try.prog 135 #[.pointer (some ⟨R, 0, none⟩), .int .i64 most] w fun r w' => r = .returned (.string ⟨t.toArray⟩) ∧ Rr w0 w' R l a' e' := by
  have hle := rdB_le l most (a, e) h.le
  refine (rText_any _ R l a e most w h.rdr h.len h.le).mono ?_
  rintro r w' ⟨rfl, h', hg⟩
  rw [hr] at hle
  simp only [rdB, Prod.mk.injEq] at hr
  obtain ⟨rfl, rfl, rfl⟩ := hr
  exact ⟨rfl, h.turn h' hg hle⟩

theorem rrDone_any {w0 w : World} {R : Nat} {l : List UInt8} {a e : Nat} (h : Rr w0 w R l a e) :
    Calls Try.prog 72 #[.pointer (some ⟨R, 0, none⟩)] w fun r w' => r = .returned (.int .i64 (doneE l a e : Int)) ∧ Below w.heap.size w w' := by
  refine (rDone_any _ R l a e w h.rdr h.len h.le).mono ?_
  rintro r w' ⟨rfl, n, rfl⟩
  exact ⟨rfl, rfl, rfl, rfl, Nat.le_refl _, fun _ _ => rfl⟩

theorem rqDone_any {w0 w : World} {Q : Nat} {v : Value} {l : List UInt8} {a e : Nat} (h : Rq w0 w Q v l a e) :
    Calls Try.prog 42 #[.pointer (some ⟨Q, 0, none⟩)] w fun r w' => r = .returned (.int .i64 (doneE l a e : Int)) ∧ Below w.heap.size w w' := by
  refine (qDone_any _ Q v l a e w h.rrd h.len h.le).mono ?_
  rintro r w' ⟨rfl, n, rfl⟩
  exact ⟨rfl, rfl, rfl, rfl, Nat.le_refl _, fun _ _ => rfl⟩
end Go.Proofs.Ytfnnbfgfmbiabab
