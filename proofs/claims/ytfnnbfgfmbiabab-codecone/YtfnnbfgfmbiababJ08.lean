/-
  Hold; MsgW; MsgB; PutA; PutB.
-/
import Derived.Test.YtfnnbfgfmbiababJ07
/-
  Writers and readers that a call makes for itself: what each call leaves, where nothing below was turned.
-/
namespace Go.Proofs.Ytfnnbfgfmbiabab
open Go.RowKit Go.Shelf

/-- What a writer turns lies at its own block or behind. -/
theorem Tn.bel {t : TypeId} {w0 w w' : World} {v : Value} {l : List UInt8} {e : Nat} (h : Wtr t w0.heap.size w w0.heap.size v l e) (hB : Below w0.heap.size w0 w) (hT : Tn w w' w0.heap.size v) : Below w0.heap.size w0 w' := by
  have hz := hB.size
  refine hB.trans ⟨hT.os, hT.tape, hT.output, hT.size, fun k hk => hT.block k (by omega) (by omega) (fun e => ?_)⟩
  have := (World.ownsRow.lt h.ow k e).1
  omega

/-- The code's writer, made at w0's end: it has put l. -/
structure Wr (w0 w : World) (l : List UInt8) : Prop where
  ex : ∃ v, Wtr 129 w0.heap.size w w0.heap.size v l 0
  bel : Below w0.heap.size w0 w
/-- The document's writer. -/
structure Wv (w0 w : World) (l : List UInt8) : Prop where
  ex : ∃ v, Wtr 86 w0.heap.size w w0.heap.size v l 0
  bel : Below w0.heap.size w0 w

theorem newW_any (w : World) : Calls Try.prog 32 #[] w fun r w' => r = .returned (.pointer (some ⟨w.heap.size, 0, none⟩)) ∧ Wr w w' [] := by
  refine (newWriter_any w).mono ?_
  rintro r w' ⟨rfl, h, hB⟩
  exact ⟨rfl, ⟨_, h⟩, hB⟩

theorem newV {w : World} : Wv w (w.alloc (.cells #[.slice none 0 0, .int .i64 0] 86)) [] :=
  ⟨⟨_, Nat.le_refl _, World.alloc_heap_new w _, Ow.nil _ _⟩, (Below.refl _ w).alloc (Nat.le_refl _) _⟩

theorem wrInt_any (n : Int) {w0 w : World} {l : List UInt8} (h : Wr w0 w l) (hl : l.length ≤ 1073741824) (hn : isNumB n = true) :
    Calls Try.prog 55 #[.pointer (some ⟨w0.heap.size, 0, none⟩), .int .i64 n] w fun r w' => r = .returned (.tuple #[]) ∧ Wr w0 w' (l ++ numB n.toNat) := by
  obtain ⟨⟨v, hW⟩, hB⟩ := h
  refine (wwInt_any _ _ v l 0 n w hW hl).mono ?_
  rintro r w' ⟨rfl, v', hW', hT, -⟩
  rw [wInt_ok l n hn] at hW'
  exact ⟨rfl, ⟨v', hW'⟩, Tn.bel hW hB hT⟩

theorem wvInt_any (n : Int) {w0 w : World} {l : List UInt8} (h : Wv w0 w l) (hl : l.length ≤ 1073741824) (hn : isNumB n = true) :
    Calls Try.prog 36 #[.pointer (some ⟨w0.heap.size, 0, none⟩), .int .i64 n] w fun r w' => r = .returned (.tuple #[]) ∧ Wv w0 w' (l ++ numB n.toNat) := by
  obtain ⟨⟨v, hW⟩, hB⟩ := h
  refine (vvInt_any _ _ v l 0 n w hW hl).mono ?_
  rintro r w' ⟨rfl, v', hW', hT, -⟩
  rw [vInt_ok l n hn] at hW'
  exact ⟨rfl, ⟨v', hW'⟩, Tn.bel hW hB hT⟩

theorem bool_num (t : Bool) : isNumB (if t then 1 else 0) = true := by cases t <;> decide
theorem bool_nat (t : Bool) : ((if t then 1 else 0 : Int)).toNat = if t then 1 else 0 := by cases t <;> rfl

theorem wrBool_any (t : Bool) {w0 w : World} {l : List UInt8} (h : Wr w0 w l) (hl : l.length ≤ 1073741824) :
    Calls Try.prog 89 #[.pointer (some ⟨w0.heap.size, 0, none⟩), .bool t] w fun r w' => r = .returned (.tuple #[]) ∧ Wr w0 w' (l ++ numB (if t then 1 else 0)) := by
  obtain ⟨⟨v, hW⟩, hB⟩ := h
  refine (wwBool_any _ _ v l 0 t w hW hl).mono ?_
  rintro r w' ⟨rfl, v', hW', hT, -⟩
  rw [wInt_ok l _ (bool_num t), bool_nat] at hW'
  exact ⟨rfl, ⟨v', hW'⟩, Tn.bel hW hB hT⟩

theorem wBytes_ok (l m : List UInt8) (most : Int) (h : (m.length : Int) ≤ most) : wBytes l 0 m most = (l ++ (numB m.length ++ m), 0) := by
  unfold wBytes; rw [if_neg (by simp), if_neg (by omega)]; simp
theorem vBytes_ok (l m : List UInt8) (most : Int) (h : (m.length : Int) ≤ most) : vBytes l 0 m most = (l ++ (numB m.length ++ m), 0) := by
  unfold vBytes; rw [if_neg (by simp), if_neg (by omega)]; simp

theorem wrBytes_any (most : Int) {w0 w : World} {l m : List UInt8} {x : Value} {M : Nat} (h : Wr w0 w l) (hl : l.length ≤ 1073741824) (hm : m.length ≤ 1073741824) (hx : Sl M w0 x m) (hM : M ≤ w0.heap.size) (hmost : (m.length : Int) ≤ most) :
    Calls Try.prog 74 #[.pointer (some ⟨w0.heap.size, 0, none⟩), x, .int .i64 most] w fun r w' => r = .returned (.tuple #[]) ∧ Wr w0 w' (l ++ (numB m.length ++ m)) := by
  obtain ⟨⟨v, hW⟩, hB⟩ := h
  have hz := hB.size
  have hx' := hx.below (hB.mono hM)
  refine (wwBytes_any _ _ M v x l m 0 most w hW hl hm hx' (by omega) (apart_out hW hx' hM)).mono ?_
  rintro r w' ⟨rfl, v', hW', hT, -⟩
  rw [wBytes_ok l m most hmost] at hW'
  exact ⟨rfl, ⟨v', hW'⟩, Tn.bel hW hB hT⟩

theorem wvBytes_any (most : Int) {w0 w : World} {l m : List UInt8} {x : Value} {M : Nat} (h : Wv w0 w l) (hl : l.length ≤ 1073740824) (hm : m.length ≤ 1073741824) (hx : Sl M w0 x m) (hM : M ≤ w0.heap.size) (hmost : (m.length : Int) ≤ most) :
    Calls Try.prog 37 #[.pointer (some ⟨w0.heap.size, 0, none⟩), x, .int .i64 most] w fun r w' => r = .returned (.tuple #[]) ∧ Wv w0 w' (l ++ (numB m.length ++ m)) := by
  obtain ⟨⟨v, hW⟩, hB⟩ := h
  have hz := hB.size
  have hx' := hx.below (hB.mono hM)
  refine (vvBytes_any _ _ M v x l m 0 most w hW hl hm hx' (by omega) (apart_out hW hx' hM)).mono ?_
  rintro r w' ⟨rfl, v', hW', hT, -⟩
  rw [vBytes_ok l m most hmost] at hW'
  exact ⟨rfl, ⟨v', hW'⟩, Tn.bel hW hB hT⟩

theorem wrText_any (most : Int) {w0 w : World} {l m : List UInt8} (h : Wr w0 w l) (hl : l.length ≤ 1073741824) (hm : m.length ≤ 1073741824) (hmost : (m.length : Int) ≤ most) :
    Calls Try.prog 136 #[.pointer (some ⟨w0.heap.size, 0, none⟩), .string ⟨m.toArray⟩, .int .i64 most] w fun r w' => r = .returned (.tuple #[]) ∧ Wr w0 w' (l ++ (numB m.length ++ m)) := by
  obtain ⟨⟨v, hW⟩, hB⟩ := h
  refine (wwText_any _ _ v l m 0 most w hW hl hm).mono ?_
  rintro r w' ⟨rfl, v', hW', hT, -⟩
  rw [wBytes_ok l m most hmost] at hW'
  exact ⟨rfl, ⟨v', hW'⟩, Tn.bel hW hB hT⟩

theorem wrDone_any {w0 w : World} {l : List UInt8} (h : Wr w0 w l) (hl : l.length ≤ 1073741824) :
    Calls Try.prog 34 #[.pointer (some ⟨w0.heap.size, 0, none⟩)] w fun r w' => ∃ u, r = .returned (.tuple #[u, .int .i64 0]) ∧ Ow w0.heap.size w' u l ∧ Below w0.heap.size w0 w' := by
  obtain ⟨⟨v, hW⟩, hB⟩ := h
  have hz := hB.size
  refine (wwDone_any _ _ v l 0 w hW hl).mono ?_
  rintro r w' ⟨u, rfl, hO, hB'⟩
  exact ⟨u, rfl, hO.base hz, hB.trans (hB'.mono hz)⟩

theorem wvDone_any {w0 w : World} {l : List UInt8} (h : Wv w0 w l) :
    Calls Try.prog 38 #[.pointer (some ⟨w0.heap.size, 0, none⟩)] w fun r w' => ∃ u, r = .returned (.tuple #[u, .int .i64 0]) ∧ Sl w'.heap.size w' u l ∧ Below w0.heap.size w0 w' := by
  obtain ⟨⟨v, hW⟩, hB⟩ := h
  refine (vvDone_any _ _ v l 0 w hW).mono ?_
  rintro r w' ⟨u, rfl, hS, n, rfl⟩
  rw [if_pos rfl] at hS
  exact ⟨u, rfl, hS, hB.trans ⟨rfl, rfl, rfl, Nat.le_refl _, fun _ _ => rfl⟩⟩

/-- The code's reader of l, made behind w0. -/
structure Rr (w0 w : World) (R : Nat) (l : List UInt8) (p e : Nat) : Prop where
  rdr : Rdr w0.heap.size w R l p e
  bel : Below w0.heap.size w0 w
  len : l.length ≤ 1099511627776
  le : p ≤ l.length
/-- The document's reader. -/
structure Rq (w0 w : World) (Q : Nat) (v : Value) (l : List UInt8) (p e : Nat) : Prop where
  rrd : Rrd w0.heap.size w Q v l p e
  bel : Below w0.heap.size w0 w
  len : l.length ≤ 20000
  le : p ≤ l.length

theorem Rr.mono {w0 w w' : World} {R : Nat} {l : List UInt8} {p e : Nat} (h : Rr w0 w R l p e) (hB : Below w.heap.size w w') : Rr w0 w' R l p e :=
  ⟨h.rdr.below hB (Nat.le_refl _), h.bel.trans (hB.mono h.bel.size), h.len, h.le⟩
theorem Rq.mono {w0 w w' : World} {Q : Nat} {v : Value} {l : List UInt8} {p e : Nat} (h : Rq w0 w Q v l p e) (hB : Below w.heap.size w w') : Rq w0 w' Q v l p e :=
  ⟨h.rrd.below hB (Nat.le_refl _), h.bel.trans (hB.mono h.bel.size), h.len, h.le⟩

theorem Rr.turn {w0 w w' : World} {R : Nat} {l : List UInt8} {p e p' e' : Nat} (h : Rr w0 w R l p e) (h' : Rdr w0.heap.size w' R l p' e') (hg : w.grownBy w' (some R)) (hp : p' ≤ l.length) : Rr w0 w' R l p' e' :=
  ⟨h', h.bel.grown hg h.bel.size (fun k e => by cases e; exact h.rdr.le), h.len, hp⟩
theorem Rq.turn {w0 w w' : World} {Q : Nat} {v : Value} {l : List UInt8} {p e p' e' : Nat} (h : Rq w0 w Q v l p e) (h' : Rrd w0.heap.size w' Q v l p' e') (hg : w.grownBy w' (some Q)) (hp : p' ≤ l.length) : Rq w0 w' Q v l p' e' :=
  ⟨h', h.bel.grown hg h.bel.size (fun k e => by cases e; exact h.rrd.le), h.len, hp⟩

theorem newR_any (w : World) {M : Nat} {v : Value} {l : List UInt8} (hv : Sl M w v l) (hl : l.length ≤ 1099511627776) :
    Calls Try.prog 65 #[v] w fun r w' => ∃ R, r = .returned (.pointer (some ⟨R, 0, none⟩)) ∧ Rr w w' R l 0 0 := by
  refine (newReader_any M v l w hv hl).mono ?_
  rintro r w' ⟨R, rfl, h, hB⟩
  exact ⟨R, rfl, h, hB, hl, Nat.zero_le _⟩

theorem newQ {M : Nat} {w : World} {v : Value} {l : List UInt8} (hv : Sl M w v l) (hM : M ≤ w.heap.size) (hl : l.length ≤ 20000) : Rq w (w.alloc (.cells #[v, .int .i64 0, .int .i64 0] 135)) w.heap.size v l 0 0 := by
  have hB : Below w.heap.size w (w.alloc (.cells #[v, .int .i64 0, .int .i64 0] 135)) := (Below.refl _ w).alloc (Nat.le_refl _) _
  exact ⟨⟨Nat.le_refl _, World.alloc_heap_new w _, (hv.below (hB.mono hM)).mono hM⟩, hB, hl, Nat.zero_le _⟩

theorem rrInt_any {w0 w : World} {R : Nat} {l : List UInt8} {a e n a' e' : Nat} (h : Rr w0 w R l a e) (hr : rdN l (a, e) = (n, (a', e'))) :
    Calls Try.prog 67 #[.pointer (some ⟨R, 0, none⟩)] w fun r w' => r = .returned (.int .i64 (n : Int)) ∧ Rr w0 w' R l a' e' := by
  have hle := rdN_le l (a, e) h.le
  refine (rInt_any _ R l a e w h.rdr h.len h.le).mono ?_
  rintro r w' ⟨rfl, h', hg⟩
  rw [hr] at hle
  simp only [rdN, Prod.mk.injEq] at hr
  obtain ⟨rfl, rfl, rfl⟩ := hr
  exact ⟨rfl, h.turn h' hg hle⟩

theorem rqInt_any {w0 w : World} {Q : Nat} {v : Value} {l : List UInt8} {a e n a' e' : Nat} (h : Rq w0 w Q v l a e) (hr : rdN l (a, e) = (n, (a', e'))) :
    Calls Try.prog 81 #[.pointer (some ⟨Q, 0, none⟩)] w fun r w' => r = .returned (.int .i64 (n : Int)) ∧ Rq w0 w' Q v l a' e' := by
  have hle := rdN_le l (a, e) h.le
  refine (qInt_any _ Q v l a e w h.rrd h.len h.le).mono ?_
  rintro r w' ⟨rfl, h', hg⟩
  rw [hr] at hle
  simp only [rdN, Prod.mk.injEq] at hr
  obtain ⟨rfl, rfl, rfl⟩ := hr
  exact ⟨rfl, h.turn h' hg hle⟩

theorem rrBytes_any {w0 w : World} {R : Nat} {l t : List UInt8} {a e a' e' : Nat} (most : Int) (h : Rr w0 w R l a e) (hr : rdB l most (a, e) = (t, (a', e'))) :
    Calls Try.prog 107 #[.pointer (some ⟨R, 0, none⟩), .int .i64 most] w fun r w' => ∃ v, r = .returned v ∧ Ow w.heap.size w' v t ∧ Rr w0 w' R l a' e' ∧ w.heap.size ≤ w'.heap.size := by
  have hle := rdB_le l most (a, e) h.le
  refine (rBytes_any _ R l a e most w h.rdr h.len h.le).mono ?_
  rintro r w' ⟨v, rfl, hO, h', hg⟩
  rw [hr] at hle
  simp only [rdB, Prod.mk.injEq] at hr
  obtain ⟨rfl, rfl, rfl⟩ := hr
  exact ⟨v, rfl, hO, h.turn h' hg hle, hg.size⟩

theorem rqBytes_any {w0 w : World} {Q : Nat} {v : Value} {l t : List UInt8} {a e a' e' : Nat} (most : Int) (h : Rq w0 w Q v l a e) (hr : rdB l most (a, e) = (t, (a', e'))) :
    Calls Try.prog 83 #[.pointer (some ⟨Q, 0, none⟩), .int .i64 most] w fun r w' => ∃ u, r = .returned u ∧ Sl w'.heap.size w' u t ∧ Rq w0 w' Q v l a' e' := by
  have hle := rdB_le l most (a, e) h.le
  refine (qBytes_any _ Q v l a e most w h.rrd h.len h.le).mono ?_
  rintro r w' ⟨u, rfl, hS, h', hg⟩
  rw [hr] at hle
  simp only [rdB, Prod.mk.injEq] at hr
  obtain ⟨rfl, rfl, rfl⟩ := hr
  exact ⟨u, rfl, hS, h.turn h' hg hle⟩

theorem rrText_any {w0 w : World} {R : Nat} {l t : List UInt8} {a e a' e' : Nat} (most : Int) (h : Rr w0 w R l a e) (hr : rdB l most (a, e) = (t, (a', e'))) :
    Calls Try.prog 135 #[.pointer (some ⟨R, 0, none⟩), .int .i64 most] w fun r w' => r = .returned (.string ⟨t.toArray⟩) ∧ Rr w0 w' R l a' e' := by
  have hle := rdB_le l most (a, e) h.le
  refine (rText_any _ R l a e most w h.rdr h.len h.le).mono ?_
  rintro r w' ⟨rfl, h', hg⟩
  rw [hr] at hle
  simp only [rdB, Prod.mk.injEq] at hr
  obtain ⟨rfl, rfl, rfl⟩ := hr
  exact ⟨rfl, h.turn h' hg hle⟩

theorem rrDone_any {w0 w : World} {R : Nat} {l : List UInt8} {a e : Nat} (h : Rr w0 w R l a e) :
    Calls Try.prog 72 #[.pointer (some ⟨R, 0, none⟩)] w fun r w' => r = .returned (.int .i64 (doneE l a e : Int)) ∧ Below w.heap.size w w' := by
  refine (rDone_any _ R l a e w h.rdr h.len h.le).mono ?_
  rintro r w' ⟨rfl, n, rfl⟩
  exact ⟨rfl, rfl, rfl, rfl, Nat.le_refl _, fun _ _ => rfl⟩

theorem rqDone_any {w0 w : World} {Q : Nat} {v : Value} {l : List UInt8} {a e : Nat} (h : Rq w0 w Q v l a e) :
    Calls Try.prog 42 #[.pointer (some ⟨Q, 0, none⟩)] w fun r w' => r = .returned (.int .i64 (doneE l a e : Int)) ∧ Below w.heap.size w w' := by
  refine (qDone_any _ Q v l a e w h.rrd h.len h.le).mono ?_
  rintro r w' ⟨rfl, n, rfl⟩
  exact ⟨rfl, rfl, rfl, rfl, Nat.le_refl _, fun _ _ => rfl⟩
end Go.Proofs.Ytfnnbfgfmbiabab

/-
  The code's writer beside blocks that were made behind it, and that stay.
-/
namespace Go.Proofs.Ytfnnbfgfmbiabab
open Go.RowKit Go.Shelf

/-- The code's writer, made at w0's end; the blocks of S are none of its own. -/
structure Ws (w0 w : World) (S : Nat → Prop) (l : List UInt8) : Prop where
  ex : ∃ v, Wtr 129 w0.heap.size w w0.heap.size v l 0 ∧ ∀ k, S k → v.ownBlock ≠ some k
  bel : Below w0.heap.size w0 w
  inS : ∀ k, S k → k < w.heap.size ∧ k ≠ w0.heap.size

theorem Wr.mono {w0 w w' : World} {l : List UInt8} (h : Wr w0 w l) (hB : Below w.heap.size w w') : Wr w0 w' l := by
  obtain ⟨⟨v, hW⟩, hb⟩ := h
  exact ⟨⟨v, hW.below hB (Nat.le_refl _)⟩, hb.trans (hB.mono hb.size)⟩
theorem Wv.mono {w0 w w' : World} {l : List UInt8} (h : Wv w0 w l) (hB : Below w.heap.size w w') : Wv w0 w' l := by
  obtain ⟨⟨v, hW⟩, hb⟩ := h
  exact ⟨⟨v, hW.below hB (Nat.le_refl _)⟩, hb.trans (hB.mono hb.size)⟩
theorem Ws.mono {w0 w w' : World} {S : Nat → Prop} {l : List UInt8} (h : Ws w0 w S l) (hB : Below w.heap.size w w') : Ws w0 w' S l := by
  obtain ⟨⟨v, hW, hv⟩, hb, hS⟩ := h
  exact ⟨⟨v, hW.below hB (Nat.le_refl _), hv⟩, hb.trans (hB.mono hb.size), fun k hk => ⟨Nat.lt_of_lt_of_le (hS k hk).1 hB.size, (hS k hk).2⟩⟩
theorem Ws.wr {w0 w : World} {S : Nat → Prop} {l : List UInt8} (h : Ws w0 w S l) : Wr w0 w l := by
  obtain ⟨⟨v, hW, -⟩, hb, -⟩ := h
  exact ⟨⟨v, hW⟩, hb⟩
/-- New blocks are none of the writer's. -/
theorem Wr.ws {w0 w w' : World} {S : Nat → Prop} {l : List UInt8} (h : Wr w0 w l) (hB : Below w.heap.size w w') (hS : ∀ k, S k → w.heap.size ≤ k ∧ k < w'.heap.size) : Ws w0 w' S l := by
  obtain ⟨⟨v, hW⟩, hb⟩ := h
  have hlt := hW.lt
  refine ⟨⟨v, hW.below hB (Nat.le_refl _), fun k hk e => ?_⟩, hb.trans (hB.mono hb.size), fun k hk => ⟨(hS k hk).2, ?_⟩⟩
  · have := (World.ownsRow.lt hW.ow k e).2
    have := (hS k hk).1
    omega
  · have := (hS k hk).1
    omega
/-- More of them. -/
theorem Ws.more {w0 w w' : World} {S S' : Nat → Prop} {l : List UInt8} (h : Ws w0 w S l) (hB : Below w.heap.size w w') (hS : ∀ k, S' k → S k ∨ (w.heap.size ≤ k ∧ k < w'.heap.size)) : Ws w0 w' S' l := by
  obtain ⟨⟨v, hW, hv⟩, hb, hs⟩ := h
  have hlt := hW.lt
  refine ⟨⟨v, hW.below hB (Nat.le_refl _), fun k hk e => ?_⟩, hb.trans (hB.mono hb.size), fun k hk => ?_⟩
  · rcases hS k hk with h1 | h1
    · exact hv k h1 e
    · have := (World.ownsRow.lt hW.ow k e).2
      omega
  · rcases hS k hk with h1 | h1
    · exact ⟨Nat.lt_of_lt_of_le (hs k h1).1 hB.size, (hs k h1).2⟩
    · exact ⟨h1.2, by omega⟩

theorem Ws.step {w0 w w' : World} {S : Nat → Prop} {l l' : List UInt8} {v v' : Value} (h : Ws w0 w S l) (hW : Wtr 129 w0.heap.size w w0.heap.size v l 0) (hv : ∀ k, S k → v.ownBlock ≠ some k)
    (hW' : Wtr 129 w0.heap.size w' w0.heap.size v' l' 0) (hT : Tn w w' w0.heap.size v) (hS : Son w v v') : Ws w0 w' S l' ∧ ∀ k, S k → w'.heap[k]? = w.heap[k]? := by
  refine ⟨⟨⟨v', hW', fun k hk e => ?_⟩, Tn.bel hW h.bel hT, fun k hk => ⟨Nat.lt_of_lt_of_le (h.inS k hk).1 hT.size, (h.inS k hk).2⟩⟩, fun k hk => hT.block k (h.inS k hk).1 (h.inS k hk).2 (hv k hk)⟩
  have h1 := (h.inS k hk).1
  rcases hS with hS | hS | ⟨i, hS, hi⟩
  · rw [hS] at e; cases e
  · exact hv k hk (hS ▸ e)
  · rw [hS] at e; cases e; omega

theorem wsInt_any (n : Int) {w0 w : World} {S : Nat → Prop} {l : List UInt8} (h : Ws w0 w S l) (hl : l.length ≤ 1073741824) (hn : isNumB n = true) :
    Calls Try.prog 55 #[.pointer (some ⟨w0.heap.size, 0, none⟩), .int .i64 n] w fun r w' => r = .returned (.tuple #[]) ∧ Ws w0 w' S (l ++ numB n.toNat) ∧ ∀ k, S k → w'.heap[k]? = w.heap[k]? := by
  obtain ⟨v, hW, hv⟩ := h.ex
  refine (wwInt_any _ _ v l 0 n w hW hl).mono ?_
  rintro r w' ⟨rfl, v', hW', hT, hS⟩
  rw [wInt_ok l n hn] at hW'
  exact ⟨rfl, h.step hW hv hW' hT hS⟩

theorem wsBool_any (t : Bool) {w0 w : World} {S : Nat → Prop} {l : List UInt8} (h : Ws w0 w S l) (hl : l.length ≤ 1073741824) :
    Calls Try.prog 89 #[.pointer (some ⟨w0.heap.size, 0, none⟩), .bool t] w fun r w' => r = .returned (.tuple #[]) ∧ Ws w0 w' S (l ++ numB (if t then 1 else 0)) ∧ ∀ k, S k → w'.heap[k]? = w.heap[k]? := by
  obtain ⟨v, hW, hv⟩ := h.ex
  refine (wwBool_any _ _ v l 0 t w hW hl).mono ?_
  rintro r w' ⟨rfl, v', hW', hT, hS⟩
  rw [wInt_ok l _ (bool_num t), bool_nat] at hW'
  exact ⟨rfl, h.step hW hv hW' hT hS⟩

/-- Bytes of new memory, behind the writer's. -/
theorem wsBytes_any (most : Int) {w0 w : World} {S : Nat → Prop} {l m : List UInt8} {x : Value} {N : Nat} (h : Ws w0 w S l) (hl : l.length ≤ 1073741824) (hm : m.length ≤ 1073741824) (hx : Ow N w x m) (hN : ∀ k, x.ownBlock = some k → S k) (hmost : (m.length : Int) ≤ most) :
    Calls Try.prog 74 #[.pointer (some ⟨w0.heap.size, 0, none⟩), x, .int .i64 most] w fun r w' => r = .returned (.tuple #[]) ∧ Ws w0 w' S (l ++ (numB m.length ++ m)) ∧ ∀ k, S k → w'.heap[k]? = w.heap[k]? := by
  obtain ⟨v, hW, hv⟩ := h.ex
  have hx' := hx.sl (Nat.le_refl w.heap.size)
  refine (wwBytes_any _ _ w.heap.size v x l m 0 most w hW hl hm hx' (Nat.le_refl _) (fun _ => ⟨fun e => (h.inS _ (hN _ e)).2 rfl, fun k hk => hv k (hN k hk)⟩)).mono ?_
  rintro r w' ⟨rfl, v', hW', hT, hS⟩
  rw [wBytes_ok l m most hmost] at hW'
  exact ⟨rfl, h.step hW hv hW' hT hS⟩
end Go.Proofs.Ytfnnbfgfmbiabab

/-
  A bool's number, kept shut.
-/
namespace Go.Proofs.Ytfnnbfgfmbiabab
open Go.RowKit Go.Shelf

/-- A bool as a number. -/
def bN (t : Bool) : Nat := if t then 1 else 0
theorem bN_le (t : Bool) : bN t ≤ 1 := by cases t <;> decide

theorem wsBoolN_any (t : Bool) {w0 w : World} {S : Nat → Prop} {l : List UInt8} (h : Ws w0 w S l) (hl : l.length ≤ 1073741824) :
    Calls Try.prog 89 #[.pointer (some ⟨w0.heap.size, 0, none⟩), .bool t] w fun r w' => r = .returned (.tuple #[]) ∧ Ws w0 w' S (l ++ numB (bN t)) ∧ ∀ k, S k → w'.heap[k]? = w.heap[k]? := wsBool_any t h hl
end Go.Proofs.Ytfnnbfgfmbiabab

/-
  Put of the plain kinds, the code's and the document's.
-/
namespace Go.Proofs.Ytfnnbfgfmbiabab
open Go.RowKit Go.Shelf

set_option maxRecDepth 100000 in
set_option maxHeartbeats 2000000 in
theorem putState_any (t v c : Int) (w : World) : Calls Try.prog 30 #[.agg #[], .agg #[.int .i64 t, .int .i64 v, .int .i64 c]] w fun r w' =>
    ∃ u, r = .returned (.tuple #[u, .int .i64 (ckState t v c : Int)]) ∧ Ow w.heap.size w' u (if ckState t v c = 0 then txState t v c else []) ∧ Below w.heap.size w w' := by
  have hbt := numB_len t.toNat
  have hbv := numB_len v.toNat
  have hbc := numB_len c.toNat
  obtain ⟨W0, hW0⟩ : ∃ W0, ((w.alloc (.cells #[] 56)).alloc (.cells #[.int .i64 t, .int .i64 v, .int .i64 c] 43)) = W0 := ⟨_, rfl⟩
  have HW0 : Hid (((w.alloc (.cells #[] 56)).alloc (.cells #[.int .i64 t, .int .i64 v, .int .i64 c] 43)) = W0) := hW0
  have HB0 : Hid (Below w.heap.size w W0) := by show Below w.heap.size w W0; rw [← hW0]; exact (((Below.refl _ w).alloc (by simp) _).alloc (by simp) _)
  have HQ : Hid (∀ w', Below W0.heap.size W0 w' → w'.cell? ⟨w.heap.size + 1, 0, none⟩ = some (.int .i64 t) ∧ w'.cell? ⟨w.heap.size + 1, 1, none⟩ = some (.int .i64 v) ∧ w'.cell? ⟨w.heap.size + 1, 2, none⟩ = some (.int .i64 c)) := fun w' hB => by
    have hlt : w.heap.size + 1 < W0.heap.size := by rw [← hW0]; simp
    have hh : W0.heap[w.heap.size + 1]? = some (.cells #[.int .i64 t, .int .i64 v, .int .i64 c] 43 (0, 0)) := by
      rw [← hW0]; exact (by simpa using World.alloc_heap_new (w.alloc (.cells #[] 56)) _)
    have h2 := (hB.block _ hlt).trans hh
    refine ⟨?_, ?_, ?_⟩ <;> (simp only [World.cell?, h2]; rfl)
  clear hW0
  by_cases hk : ckState t v c = 0
  · rw [if_pos hk]
    obtain ⟨kt, kv, kc⟩ := ckState_nums hk
    go_enter Try.func30, Try.ntmps30
    go_wp2_with (go_at_call 31; refine (ckState_any t v c _).mono ?_; rintro e w1 ⟨rfl, hB1⟩; rw [HW0.out] at hB1; obtain ⟨q0, q1, q2⟩ := HQ.out w1 hB1)
    go_wp2_with fail
    refine (newW_any w1).mono ?_
    rintro r w2 ⟨rfl, h2⟩
    obtain ⟨q0, q1, q2⟩ := HQ.out w2 (hB1.trans (h2.bel.mono hB1.size))
    go_wp2_with fail
    refine (wrInt_any t h2 (by simp <;> omega) kt).mono ?_
    rintro r w3 ⟨rfl, h3⟩
    obtain ⟨q0, q1, q2⟩ := HQ.out w3 (hB1.trans (h3.bel.mono hB1.size))
    go_wp2_with fail
    refine (wrInt_any v h3 (by simp <;> omega) kv).mono ?_
    rintro r w4 ⟨rfl, h4⟩
    obtain ⟨q0, q1, q2⟩ := HQ.out w4 (hB1.trans (h4.bel.mono hB1.size))
    go_wp2_with fail
    refine (wrInt_any c h4 (by simp <;> omega) kc).mono ?_
    rintro r w5 ⟨rfl, h5⟩
    obtain ⟨q0, q1, q2⟩ := HQ.out w5 (hB1.trans (h5.bel.mono hB1.size))
    go_wp2_with fail
    refine (wrDone_any h5 (by simp <;> omega)).mono ?_
    rintro r w9 ⟨u, rfl, hO9, hB9⟩
    go_wp2
    go_ret2
    refine ⟨u, by rw [hk]; rfl, ?_, HB0.out.trans ((hB1.trans (hB9.mono hB1.size)).mono HB0.out.size)⟩
    have hO := hO9.base (N' := w.heap.size) (by have := hB1.size; have := HB0.out.size; omega)
    simpa [txState, numB] using hO
  · rw [if_neg hk]
    have ck1 := fun w' => ckState_any t v c w'
    generalize ckState t v c = ke at *
    have hke : ((ke : Int) != 0) = true := by simp; omega
    go_enter Try.func30, Try.ntmps30
    go_wp2_with (go_at_call 31; refine (ck1 _).mono ?_; rintro e w1 ⟨rfl, hB1⟩; rw [HW0.out] at hB1)
    go_ret2
    exact ⟨_, rfl, Ow.nil _ _, HB0.out.trans (hB1.mono HB0.out.size)⟩

end Go.Proofs.Ytfnnbfgfmbiabab

/-
  Put of the plain kinds, the code's and the document's.
-/
namespace Go.Proofs.Ytfnnbfgfmbiabab
open Go.RowKit Go.Shelf

set_option maxRecDepth 100000 in
set_option maxHeartbeats 2000000 in
theorem putSnap_any (i t : Int) (m : List UInt8) (a : Option Addr) (cap : Nat) (w : World) (M : Nat) (hx : Sl M w (.slice a m.length cap) m) (hM : M ≤ w.heap.size) : Calls Try.prog 140 #[.agg #[], .agg #[.int .i64 i, .int .i64 t, .slice a m.length cap]] w fun r w' =>
    ∃ u, r = .returned (.tuple #[u, .int .i64 (ckSnap i t m.length : Int)]) ∧ Ow w.heap.size w' u (if ckSnap i t m.length = 0 then txSnap i t m else []) ∧ Below w.heap.size w w' := by
  have hbi := numB_len i.toNat
  have hbt := numB_len t.toNat
  have hbm := numB_len m.length
  obtain ⟨W0, hW0⟩ : ∃ W0, ((w.alloc (.cells #[] 145)).alloc (.cells #[.int .i64 i, .int .i64 t, .slice a m.length cap] 47)) = W0 := ⟨_, rfl⟩
  have HW0 : Hid (((w.alloc (.cells #[] 145)).alloc (.cells #[.int .i64 i, .int .i64 t, .slice a m.length cap] 47)) = W0) := hW0
  have HB0 : Hid (Below w.heap.size w W0) := by show Below w.heap.size w W0; rw [← hW0]; exact (((Below.refl _ w).alloc (by simp) _).alloc (by simp) _)
  have HQ : Hid (∀ w', Below W0.heap.size W0 w' → w'.cell? ⟨w.heap.size + 1, 0, none⟩ = some (.int .i64 i) ∧ w'.cell? ⟨w.heap.size + 1, 1, none⟩ = some (.int .i64 t) ∧ w'.cell? ⟨w.heap.size + 1, 2, none⟩ = some (.slice a m.length cap)) := fun w' hB => by
    have hlt : w.heap.size + 1 < W0.heap.size := by rw [← hW0]; simp
    have hh : W0.heap[w.heap.size + 1]? = some (.cells #[.int .i64 i, .int .i64 t, .slice a m.length cap] 47 (0, 0)) := by
      rw [← hW0]; exact (by simpa using World.alloc_heap_new (w.alloc (.cells #[] 145)) _)
    have h2 := (hB.block _ hlt).trans hh
    refine ⟨?_, ?_, ?_⟩ <;> (simp only [World.cell?, h2]; rfl)
  clear hW0
  by_cases hk : ckSnap i t m.length = 0
  · rw [if_pos hk]
    obtain ⟨ki, kt, km⟩ := ckSnap_ok hk
    have hm30 : m.length ≤ 1073741824 := by omega
    have hx0 := hx.below (HB0.out.mono hM)
    have hM0 : M ≤ W0.heap.size := by have := HB0.out.size; omega
    go_enter Try.func140, Try.ntmps140
    go_wp2_with (go_at_call 93; refine (ckSnap_any i t a m.length cap _).mono ?_; rintro e w1 ⟨rfl, hB1⟩; rw [HW0.out] at hB1; obtain ⟨q0, q1, q2⟩ := HQ.out w1 hB1)
    have hx1 := hx0.below (hB1.mono hM0)
    have hM1 : M ≤ w1.heap.size := by have := hB1.size; omega
    clear hx hx0
    go_wp2_with fail
    refine (newW_any w1).mono ?_
    rintro r w2 ⟨rfl, h2⟩
    obtain ⟨q0, q1, q2⟩ := HQ.out w2 (hB1.trans (h2.bel.mono hB1.size))
    go_wp2_with fail
    refine (wrInt_any i h2 (by simp <;> omega) ki).mono ?_
    rintro r w3 ⟨rfl, h3⟩
    obtain ⟨q0, q1, q2⟩ := HQ.out w3 (hB1.trans (h3.bel.mono hB1.size))
    go_wp2_with fail
    refine (wrInt_any t h3 (by simp <;> omega) kt).mono ?_
    rintro r w4 ⟨rfl, h4⟩
    obtain ⟨q0, q1, q2⟩ := HQ.out w4 (hB1.trans (h4.bel.mono hB1.size))
    go_wp2_with fail
    refine (wrBytes_any 524288 h4 (by simp <;> omega) (by omega) hx1 hM1 km).mono ?_
    rintro r w5 ⟨rfl, h5⟩
    obtain ⟨q0, q1, q2⟩ := HQ.out w5 (hB1.trans (h5.bel.mono hB1.size))
    go_wp2_with fail
    refine (wrDone_any h5 (by simp <;> omega)).mono ?_
    rintro r w9 ⟨u, rfl, hO9, hB9⟩
    go_wp2
    go_ret2
    refine ⟨u, by rw [hk]; rfl, ?_, HB0.out.trans ((hB1.trans (hB9.mono hB1.size)).mono HB0.out.size)⟩
    have hO := hO9.base (N' := w.heap.size) (by have := hB1.size; have := HB0.out.size; omega)
    simpa [txSnap, numB] using hO
  · rw [if_neg hk]
    have ck1 := fun w' => ckSnap_any i t a m.length cap w'
    generalize ckSnap i t m.length = ke at *
    have hke : ((ke : Int) != 0) = true := by simp; omega
    go_enter Try.func140, Try.ntmps140
    go_wp2_with (go_at_call 93; refine (ck1 _).mono ?_; rintro e w1 ⟨rfl, hB1⟩; rw [HW0.out] at hB1)
    go_ret2
    exact ⟨_, rfl, Ow.nil _ _, HB0.out.trans (hB1.mono HB0.out.size)⟩

set_option maxRecDepth 100000 in
set_option maxHeartbeats 2000000 in
theorem putEntry_any (t i k : Int) (m : List UInt8) (a : Option Addr) (cap : Nat) (w : World) (M : Nat) (hx : Sl M w (.slice a m.length cap) m) (hM : M ≤ w.heap.size) : Calls Try.prog 29 #[.agg #[], .agg #[.int .i64 t, .int .i64 i, .int .i64 k, .slice a m.length cap]] w fun r w' =>
    ∃ u, r = .returned (.tuple #[u, .int .i64 (ckEntry t i k m.length : Int)]) ∧ Ow w.heap.size w' u (if ckEntry t i k m.length = 0 then txEntry t i k m else []) ∧ Below w.heap.size w w' := by
  have hbt := numB_len t.toNat
  have hbi := numB_len i.toNat
  have hbk := numB_len k.toNat
  have hbm := numB_len m.length
  obtain ⟨W0, hW0⟩ : ∃ W0, ((w.alloc (.cells #[] 31)).alloc (.cells #[.int .i64 t, .int .i64 i, .int .i64 k, .slice a m.length cap] 26)) = W0 := ⟨_, rfl⟩
  have HW0 : Hid (((w.alloc (.cells #[] 31)).alloc (.cells #[.int .i64 t, .int .i64 i, .int .i64 k, .slice a m.length cap] 26)) = W0) := hW0
  have HB0 : Hid (Below w.heap.size w W0) := by show Below w.heap.size w W0; rw [← hW0]; exact (((Below.refl _ w).alloc (by simp) _).alloc (by simp) _)
  have HQ : Hid (∀ w', Below W0.heap.size W0 w' → w'.cell? ⟨w.heap.size + 1, 0, none⟩ = some (.int .i64 t) ∧ w'.cell? ⟨w.heap.size + 1, 1, none⟩ = some (.int .i64 i) ∧ w'.cell? ⟨w.heap.size + 1, 2, none⟩ = some (.int .i64 k) ∧ w'.cell? ⟨w.heap.size + 1, 3, none⟩ = some (.slice a m.length cap)) := fun w' hB => by
    have hlt : w.heap.size + 1 < W0.heap.size := by rw [← hW0]; simp
    have hh : W0.heap[w.heap.size + 1]? = some (.cells #[.int .i64 t, .int .i64 i, .int .i64 k, .slice a m.length cap] 26 (0, 0)) := by
      rw [← hW0]; exact (by simpa using World.alloc_heap_new (w.alloc (.cells #[] 31)) _)
    have h2 := (hB.block _ hlt).trans hh
    refine ⟨?_, ?_, ?_, ?_⟩ <;> (simp only [World.cell?, h2]; rfl)
  clear hW0
  by_cases hk : ckEntry t i k m.length = 0
  · rw [if_pos hk]
    obtain ⟨kt, ki, kk, km⟩ := ckEntry_ok hk
    have hm30 : m.length ≤ 1073741824 := by omega
    have hx0 := hx.below (HB0.out.mono hM)
    have hM0 : M ≤ W0.heap.size := by have := HB0.out.size; omega
    go_enter Try.func29, Try.ntmps29
    go_wp2_with (go_at_call 73; refine (ckEntry_any t i k a m.length cap _).mono ?_; rintro e w1 ⟨rfl, hB1⟩; rw [HW0.out] at hB1; obtain ⟨q0, q1, q2, q3⟩ := HQ.out w1 hB1)
    have hx1 := hx0.below (hB1.mono hM0)
    have hM1 : M ≤ w1.heap.size := by have := hB1.size; omega
    clear hx hx0
    go_wp2_with fail
    refine (newW_any w1).mono ?_
    rintro r w2 ⟨rfl, h2⟩
    obtain ⟨q0, q1, q2, q3⟩ := HQ.out w2 (hB1.trans (h2.bel.mono hB1.size))
    go_wp2_with fail
    refine (wrInt_any t h2 (by simp <;> omega) kt).mono ?_
    rintro r w3 ⟨rfl, h3⟩
    obtain ⟨q0, q1, q2, q3⟩ := HQ.out w3 (hB1.trans (h3.bel.mono hB1.size))
    go_wp2_with fail
    refine (wrInt_any i h3 (by simp <;> omega) ki).mono ?_
    rintro r w4 ⟨rfl, h4⟩
    obtain ⟨q0, q1, q2, q3⟩ := HQ.out w4 (hB1.trans (h4.bel.mono hB1.size))
    go_wp2_with fail
    refine (wrInt_any k h4 (by simp <;> omega) kk).mono ?_
    rintro r w5 ⟨rfl, h5⟩
    obtain ⟨q0, q1, q2, q3⟩ := HQ.out w5 (hB1.trans (h5.bel.mono hB1.size))
    go_wp2_with fail
    refine (wrBytes_any 4096 h5 (by simp <;> omega) (by omega) hx1 hM1 km).mono ?_
    rintro r w6 ⟨rfl, h6⟩
    obtain ⟨q0, q1, q2, q3⟩ := HQ.out w6 (hB1.trans (h6.bel.mono hB1.size))
    go_wp2_with fail
    refine (wrDone_any h6 (by simp <;> omega)).mono ?_
    rintro r w9 ⟨u, rfl, hO9, hB9⟩
    go_wp2
    go_ret2
    refine ⟨u, by rw [hk]; rfl, ?_, HB0.out.trans ((hB1.trans (hB9.mono hB1.size)).mono HB0.out.size)⟩
    have hO := hO9.base (N' := w.heap.size) (by have := hB1.size; have := HB0.out.size; omega)
    simpa [txEntry, numB] using hO
  · rw [if_neg hk]
    have ck1 := fun w' => ckEntry_any t i k a m.length cap w'
    generalize ckEntry t i k m.length = ke at *
    have hke : ((ke : Int) != 0) = true := by simp; omega
    go_enter Try.func29, Try.ntmps29
    go_wp2_with (go_at_call 73; refine (ck1 _).mono ?_; rintro e w1 ⟨rfl, hB1⟩; rw [HW0.out] at hB1)
    go_ret2
    exact ⟨_, rfl, Ow.nil _ _, HB0.out.trans (hB1.mono HB0.out.size)⟩

set_option maxRecDepth 100000 in
set_option maxHeartbeats 2000000 in
theorem refPutEntry_any (t i k : Int) (m : List UInt8) (a : Option Addr) (cap : Nat) (w : World) (M : Nat) (hx : Sl M w (.slice a m.length cap) m) (hM : M ≤ w.heap.size) : Calls Try.prog 35 #[.agg #[.int .i64 t, .int .i64 i, .int .i64 k, .slice a m.length cap]] w fun r w' =>
    ∃ u, r = .returned (.tuple #[u, .int .i64 (ckEntry t i k m.length : Int)]) ∧ Sl w'.heap.size w' u (if ckEntry t i k m.length = 0 then txEntry t i k m else []) ∧ Below w.heap.size w w' := by
  have hbt := numB_len t.toNat
  have hbi := numB_len i.toNat
  have hbk := numB_len k.toNat
  have hbm := numB_len m.length
  obtain ⟨W0, hW0⟩ : ∃ W0, (w.alloc (.cells #[.int .i64 t, .int .i64 i, .int .i64 k, .slice a m.length cap] 26)) = W0 := ⟨_, rfl⟩
  have HW0 : Hid ((w.alloc (.cells #[.int .i64 t, .int .i64 i, .int .i64 k, .slice a m.length cap] 26)) = W0) := hW0
  have HB0 : Hid (Below w.heap.size w W0) := by show Below w.heap.size w W0; rw [← hW0]; exact ((Below.refl _ w).alloc (by simp) _)
  have HQ : Hid (∀ w', Below W0.heap.size W0 w' → w'.cell? ⟨w.heap.size, 0, none⟩ = some (.int .i64 t) ∧ w'.cell? ⟨w.heap.size, 1, none⟩ = some (.int .i64 i) ∧ w'.cell? ⟨w.heap.size, 2, none⟩ = some (.int .i64 k) ∧ w'.cell? ⟨w.heap.size, 3, none⟩ = some (.slice a m.length cap)) := fun w' hB => by
    have hlt : w.heap.size < W0.heap.size := by rw [← hW0]; simp
    have hh : W0.heap[w.heap.size]? = some (.cells #[.int .i64 t, .int .i64 i, .int .i64 k, .slice a m.length cap] 26 (0, 0)) := by
      rw [← hW0]; exact World.alloc_heap_new w _
    have h2 := (hB.block _ hlt).trans hh
    refine ⟨?_, ?_, ?_, ?_⟩ <;> (simp only [World.cell?, h2]; rfl)
  clear hW0
  by_cases hk : ckEntry t i k m.length = 0
  · rw [if_pos hk]
    obtain ⟨kt, ki, kk, km⟩ := ckEntry_ok hk
    have hm30 : m.length ≤ 1073741824 := by omega
    have hx0 := hx.below (HB0.out.mono hM)
    have hM0 : M ≤ W0.heap.size := by have := HB0.out.size; omega
    go_enter Try.func35, Try.ntmps35
    go_wp2_with (go_at_call 78; refine (refCkEntry_any t i k a m.length cap _).mono ?_; rintro e w1 ⟨rfl, hB1⟩; rw [HW0.out] at hB1; obtain ⟨q0, q1, q2, q3⟩ := HQ.out w1 hB1; have h2 := newV (w := w1); obtain ⟨q0, q1, q2, q3⟩ := HQ.out _ (hB1.trans (h2.bel.mono hB1.size)))
    have hx1 := hx0.below (hB1.mono hM0)
    have hM1 : M ≤ w1.heap.size := by have := hB1.size; omega
    clear hx hx0
    go_wp2_with fail
    refine (wvInt_any t h2 (by simp <;> omega) kt).mono ?_
    rintro r w3 ⟨rfl, h3⟩
    obtain ⟨q0, q1, q2, q3⟩ := HQ.out w3 (hB1.trans (h3.bel.mono hB1.size))
    go_wp2_with fail
    refine (wvInt_any i h3 (by simp <;> omega) ki).mono ?_
    rintro r w4 ⟨rfl, h4⟩
    obtain ⟨q0, q1, q2, q3⟩ := HQ.out w4 (hB1.trans (h4.bel.mono hB1.size))
    go_wp2_with fail
    refine (wvInt_any k h4 (by simp <;> omega) kk).mono ?_
    rintro r w5 ⟨rfl, h5⟩
    obtain ⟨q0, q1, q2, q3⟩ := HQ.out w5 (hB1.trans (h5.bel.mono hB1.size))
    go_wp2_with fail
    refine (wvBytes_any 4096 h5 (by simp <;> omega) (by omega) hx1 hM1 km).mono ?_
    rintro r w6 ⟨rfl, h6⟩
    obtain ⟨q0, q1, q2, q3⟩ := HQ.out w6 (hB1.trans (h6.bel.mono hB1.size))
    go_wp2_with fail
    refine (wvDone_any h6).mono ?_
    rintro r w9 ⟨u, rfl, hO9, hB9⟩
    go_wp2
    go_ret2
    refine ⟨u, by rw [hk]; rfl, ?_, HB0.out.trans ((hB1.trans (hB9.mono hB1.size)).mono HB0.out.size)⟩
    simpa [txEntry, numB] using hO9
  · rw [if_neg hk]
    have ck1 := fun w' => refCkEntry_any t i k a m.length cap w'
    generalize ckEntry t i k m.length = ke at *
    have hke : ((ke : Int) != 0) = true := by simp; omega
    go_enter Try.func35, Try.ntmps35
    go_wp2_with (go_at_call 78; refine (ck1 _).mono ?_; rintro e w1 ⟨rfl, hB1⟩; rw [HW0.out] at hB1)
    go_ret2
    exact ⟨_, rfl, Sl.nil _ _, HB0.out.trans (hB1.mono HB0.out.size)⟩

end Go.Proofs.Ytfnnbfgfmbiabab

