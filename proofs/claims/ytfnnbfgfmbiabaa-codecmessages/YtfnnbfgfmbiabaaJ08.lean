/-
  Hold; Plain; PutA; Whole.
-/
import Derived.Test.YtfnnbfgfmbiabaaJ07
import Derived.Handy
/-
  Writers and readers that a call makes for itself: what each call leaves, where nothing below was turned.
-/
namespace Go.Proofs.Ytfnnbfgfmbiabaa
open Go.RowKit Go.Shelf

/-- What a writer turns lies at its own block or behind. -/
theorem Tn.bel {t : TypeId} {w0 w w' : World} {v : Value} {l : List UInt8} {e : Nat} (h : Wtr t w0.heap.size w w0.heap.size v l e) (hB : Below w0.heap.size w0 w) (hT : Tn w w' w0.heap.size v) : Below w0.heap.size w0 w' := by
  have hz := hB.size
  refine hB.trans ⟨hT.os, hT.tape, hT.output, hT.size, fun k hk => hT.block k (by omega) (by omega) (fun e => ?_)⟩
  have := (World.ownsRow.lt h.ow k e).1
  omega

/-- The code's writer, made at w0's end: it has put l. -/
structure Wr (w0 w : World) (l : List UInt8) : Prop where
  ex : ∃ v, Wtr 147 w0.heap.size w w0.heap.size v l 0
  bel : Below w0.heap.size w0 w
/-- The document's writer. -/
structure Wv (w0 w : World) (l : List UInt8) : Prop where
  ex : ∃ v, Wtr 115 w0.heap.size w w0.heap.size v l 0
  bel : Below w0.heap.size w0 w

theorem newW_any (w : World) : Calls Try.prog 54 #[] w fun r w' => r = .returned (.pointer (some ⟨w.heap.size, 0, none⟩)) ∧ Wr w w' [] := by
  refine (newWriter_any w).mono ?_
  rintro r w' ⟨rfl, h, hB⟩
  exact ⟨rfl, ⟨_, h⟩, hB⟩

theorem newV {w : World} : Wv w (w.alloc (.cells #[.slice none 0 0, .int .i64 0] 115)) [] :=
  ⟨⟨_, Nat.le_refl _, World.alloc_heap_new w _, Ow.nil _ _⟩, (Below.refl _ w).alloc (Nat.le_refl _) _⟩

theorem wrInt_any (n : Int) {w0 w : World} {l : List UInt8} (h : Wr w0 w l) (hl : l.length ≤ 1073741824) (hn : isNumB n = true) :
    Calls Try.prog 55 #[.pointer (some ⟨w0.heap.size, 0, none⟩), .int .i64 n] w fun r w' => r = .returned (.tuple #[]) ∧ Wr w0 w' (l ++ numB n.toNat) := by
  obtain ⟨⟨v, hW⟩, hB⟩ := h
  refine (wwInt_any _ _ v l 0 n w hW hl).mono ?_
  rintro r w' ⟨rfl, v', hW', hT, -⟩
  rw [wInt_ok l n hn] at hW'
  exact ⟨rfl, ⟨v', hW'⟩, Tn.bel hW hB hT⟩

theorem wvInt_any (n : Int) {w0 w : World} {l : List UInt8} (h : Wv w0 w l) (hl : l.length ≤ 1073741824) (hn : isNumB n = true) :
    Calls Try.prog 58 #[.pointer (some ⟨w0.heap.size, 0, none⟩), .int .i64 n] w fun r w' => r = .returned (.tuple #[]) ∧ Wv w0 w' (l ++ numB n.toNat) := by
  obtain ⟨⟨v, hW⟩, hB⟩ := h
  refine (vvInt_any _ _ v l 0 n w hW hl).mono ?_
  rintro r w' ⟨rfl, v', hW', hT, -⟩
  rw [vInt_ok l n hn] at hW'
  exact ⟨rfl, ⟨v', hW'⟩, Tn.bel hW hB hT⟩

theorem bool_num (t : Bool) : isNumB (if t then 1 else 0) = true := by cases t <;> decide
theorem bool_nat (t : Bool) : ((if t then 1 else 0 : Int)).toNat = if t then 1 else 0 := by cases t <;> rfl

theorem wrBool_any (t : Bool) {w0 w : World} {l : List UInt8} (h : Wr w0 w l) (hl : l.length ≤ 1073741824) :
    Calls Try.prog 111 #[.pointer (some ⟨w0.heap.size, 0, none⟩), .bool t] w fun r w' => r = .returned (.tuple #[]) ∧ Wr w0 w' (l ++ numB (if t then 1 else 0)) := by
  obtain ⟨⟨v, hW⟩, hB⟩ := h
  refine (wwBool_any _ _ v l 0 t w hW hl).mono ?_
  rintro r w' ⟨rfl, v', hW', hT, -⟩
  rw [wInt_ok l _ (bool_num t), bool_nat] at hW'
  exact ⟨rfl, ⟨v', hW'⟩, Tn.bel hW hB hT⟩

theorem wvBool_any (t : Bool) {w0 w : World} {l : List UInt8} (h : Wv w0 w l) (hl : l.length ≤ 1073741824) :
    Calls Try.prog 82 #[.pointer (some ⟨w0.heap.size, 0, none⟩), .bool t] w fun r w' => r = .returned (.tuple #[]) ∧ Wv w0 w' (l ++ numB (if t then 1 else 0)) := by
  obtain ⟨⟨v, hW⟩, hB⟩ := h
  refine (vvBool_any _ _ v l 0 t w hW hl).mono ?_
  rintro r w' ⟨rfl, v', hW', hT, -⟩
  rw [vInt_ok l _ (bool_num t), bool_nat] at hW'
  exact ⟨rfl, ⟨v', hW'⟩, Tn.bel hW hB hT⟩

theorem wBytes_ok (l m : List UInt8) (most : Int) (h : (m.length : Int) ≤ most) : wBytes l 0 m most = (l ++ (numB m.length ++ m), 0) := by
  unfold wBytes; rw [if_neg (by simp), if_neg (by omega)]; simp
theorem vBytes_ok (l m : List UInt8) (most : Int) (h : (m.length : Int) ≤ most) : vBytes l 0 m most = (l ++ (numB m.length ++ m), 0) := by
  unfold vBytes; rw [if_neg (by simp), if_neg (by omega)]; simp

theorem wrBytes_any (most : Int) {w0 w : World} {l m : List UInt8} {x : Value} {M : Nat} (h : Wr w0 w l) (hl : l.length ≤ 1073741824) (hm : m.length ≤ 1073741824) (hx : Sl M w0 x m) (hM : M ≤ w0.heap.size) (hmost : (m.length : Int) ≤ most) :
    Calls Try.prog 56 #[.pointer (some ⟨w0.heap.size, 0, none⟩), x, .int .i64 most] w fun r w' => r = .returned (.tuple #[]) ∧ Wr w0 w' (l ++ (numB m.length ++ m)) := by
  obtain ⟨⟨v, hW⟩, hB⟩ := h
  have hz := hB.size
  have hx' := hx.below (hB.mono hM)
  refine (wwBytes_any _ _ M v x l m 0 most w hW hl hm hx' (by omega) (apart_out hW hx' hM)).mono ?_
  rintro r w' ⟨rfl, v', hW', hT, -⟩
  rw [wBytes_ok l m most hmost] at hW'
  exact ⟨rfl, ⟨v', hW'⟩, Tn.bel hW hB hT⟩

theorem wvBytes_any (most : Int) {w0 w : World} {l m : List UInt8} {x : Value} {M : Nat} (h : Wv w0 w l) (hl : l.length ≤ 1073740824) (hm : m.length ≤ 1073741824) (hx : Sl M w0 x m) (hM : M ≤ w0.heap.size) (hmost : (m.length : Int) ≤ most) :
    Calls Try.prog 59 #[.pointer (some ⟨w0.heap.size, 0, none⟩), x, .int .i64 most] w fun r w' => r = .returned (.tuple #[]) ∧ Wv w0 w' (l ++ (numB m.length ++ m)) := by
  obtain ⟨⟨v, hW⟩, hB⟩ := h
  have hz := hB.size
  have hx' := hx.below (hB.mono hM)
  refine (vvBytes_any _ _ M v x l m 0 most w hW hl hm hx' (by omega) (apart_out hW hx' hM)).mono ?_
  rintro r w' ⟨rfl, v', hW', hT, -⟩
  rw [vBytes_ok l m most hmost] at hW'
  exact ⟨rfl, ⟨v', hW'⟩, Tn.bel hW hB hT⟩

theorem wrText_any (most : Int) {w0 w : World} {l m : List UInt8} (h : Wr w0 w l) (hl : l.length ≤ 1073741824) (hm : m.length ≤ 1073741824) (hmost : (m.length : Int) ≤ most) :
    Calls Try.prog 75 #[.pointer (some ⟨w0.heap.size, 0, none⟩), .string ⟨m.toArray⟩, .int .i64 most] w fun r w' => r = .returned (.tuple #[]) ∧ Wr w0 w' (l ++ (numB m.length ++ m)) := by
  obtain ⟨⟨v, hW⟩, hB⟩ := h
  refine (wwText_any _ _ v l m 0 most w hW hl hm).mono ?_
  rintro r w' ⟨rfl, v', hW', hT, -⟩
  rw [wBytes_ok l m most hmost] at hW'
  exact ⟨rfl, ⟨v', hW'⟩, Tn.bel hW hB hT⟩

theorem wvText_any (most : Int) {w0 w : World} {l m : List UInt8} (h : Wv w0 w l) (hl : l.length ≤ 1073740824) (hm : m.length ≤ 1073741824) (hmost : (m.length : Int) ≤ most) :
    Calls Try.prog 76 #[.pointer (some ⟨w0.heap.size, 0, none⟩), .string ⟨m.toArray⟩, .int .i64 most] w fun r w' => r = .returned (.tuple #[]) ∧ Wv w0 w' (l ++ (numB m.length ++ m)) := by
  obtain ⟨⟨v, hW⟩, hB⟩ := h
  refine (vvText_any _ _ v l m 0 most w hW hl hm).mono ?_
  rintro r w' ⟨rfl, v', hW', hT, -⟩
  rw [vBytes_ok l m most hmost] at hW'
  exact ⟨rfl, ⟨v', hW'⟩, Tn.bel hW hB hT⟩

theorem wrDone_any {w0 w : World} {l : List UInt8} (h : Wr w0 w l) (hl : l.length ≤ 1073741824) :
    Calls Try.prog 57 #[.pointer (some ⟨w0.heap.size, 0, none⟩)] w fun r w' => ∃ u, r = .returned (.tuple #[u, .int .i64 0]) ∧ Ow w0.heap.size w' u l ∧ Below w0.heap.size w0 w' := by
  obtain ⟨⟨v, hW⟩, hB⟩ := h
  have hz := hB.size
  refine (wwDone_any _ _ v l 0 w hW hl).mono ?_
  rintro r w' ⟨u, rfl, hO, hB'⟩
  exact ⟨u, rfl, hO.base hz, hB.trans (hB'.mono hz)⟩

theorem wvDone_any {w0 w : World} {l : List UInt8} (h : Wv w0 w l) :
    Calls Try.prog 60 #[.pointer (some ⟨w0.heap.size, 0, none⟩)] w fun r w' => ∃ u, r = .returned (.tuple #[u, .int .i64 0]) ∧ Sl w'.heap.size w' u l ∧ Below w0.heap.size w0 w' := by
  obtain ⟨⟨v, hW⟩, hB⟩ := h
  refine (vvDone_any _ _ v l 0 w hW).mono ?_
  rintro r w' ⟨u, rfl, hS, n, rfl⟩
  rw [if_pos rfl] at hS
  exact ⟨u, rfl, hS, hB.trans ⟨rfl, rfl, rfl, Nat.le_refl _, fun _ _ => rfl⟩⟩

/-- The code's reader of l, made behind w0. -/
structure Rr (w0 w : World) (R : Nat) (l : List UInt8) (p e : Nat) : Prop where
  rdr : Rdr w0.heap.size w R l p e
  bel : Below w0.heap.size w0 w
  len : l.length ≤ 1099511627776
  le : p ≤ l.length
/-- The document's reader. -/
structure Rq (w0 w : World) (Q : Nat) (v : Value) (l : List UInt8) (p e : Nat) : Prop where
  rrd : Rrd w0.heap.size w Q v l p e
  bel : Below w0.heap.size w0 w
  len : l.length ≤ 20000
  le : p ≤ l.length

theorem Rr.mono {w0 w w' : World} {R : Nat} {l : List UInt8} {p e : Nat} (h : Rr w0 w R l p e) (hB : Below w.heap.size w w') : Rr w0 w' R l p e :=
  ⟨h.rdr.below hB (Nat.le_refl _), h.bel.trans (hB.mono h.bel.size), h.len, h.le⟩
theorem Rq.mono {w0 w w' : World} {Q : Nat} {v : Value} {l : List UInt8} {p e : Nat} (h : Rq w0 w Q v l p e) (hB : Below w.heap.size w w') : Rq w0 w' Q v l p e :=
  ⟨h.rrd.below hB (Nat.le_refl _), h.bel.trans (hB.mono h.bel.size), h.len, h.le⟩

theorem Rr.turn {w0 w w' : World} {R : Nat} {l : List UInt8} {p e p' e' : Nat} (h : Rr w0 w R l p e) (h' : Rdr w0.heap.size w' R l p' e') (hg : w.grownBy w' (some R)) (hp : p' ≤ l.length) : Rr w0 w' R l p' e' :=
  ⟨h', h.bel.grown hg h.bel.size (fun k e => by cases e; exact h.rdr.le), h.len, hp⟩
theorem Rq.turn {w0 w w' : World} {Q : Nat} {v : Value} {l : List UInt8} {p e p' e' : Nat} (h : Rq w0 w Q v l p e) (h' : Rrd w0.heap.size w' Q v l p' e') (hg : w.grownBy w' (some Q)) (hp : p' ≤ l.length) : Rq w0 w' Q v l p' e' :=
  ⟨h', h.bel.grown hg h.bel.size (fun k e => by cases e; exact h.rrd.le), h.len, hp⟩

theorem newR_any (w : World) {M : Nat} {v : Value} {l : List UInt8} (hv : Sl M w v l) (hl : l.length ≤ 1099511627776) :
    Calls Try.prog 64 #[v] w fun r w' => ∃ R, r = .returned (.pointer (some ⟨R, 0, none⟩)) ∧ Rr w w' R l 0 0 := by
  refine (newReader_any M v l w hv hl).mono ?_
  rintro r w' ⟨R, rfl, h, hB⟩
  exact ⟨R, rfl, h, hB, hl, Nat.zero_le _⟩

theorem newQ {M : Nat} {w : World} {v : Value} {l : List UInt8} (hv : Sl M w v l) (hM : M ≤ w.heap.size) (hl : l.length ≤ 20000) : Rq w (w.alloc (.cells #[v, .int .i64 0, .int .i64 0] 125)) w.heap.size v l 0 0 := by
  have hB : Below w.heap.size w (w.alloc (.cells #[v, .int .i64 0, .int .i64 0] 125)) := (Below.refl _ w).alloc (Nat.le_refl _) _
  exact ⟨⟨Nat.le_refl _, World.alloc_heap_new w _, (hv.below (hB.mono hM)).mono hM⟩, hB, hl, Nat.zero_le _⟩

theorem rrInt_any {w0 w : World} {R : Nat} {l : List UInt8} {a e n a' e' : Nat} (h : Rr w0 w R l a e) (hr : rdN l (a, e) = (n, (a', e'))) :
    Calls Try.prog 66 #[.pointer (some ⟨R, 0, none⟩)] w fun r w' => r = .returned (.int .i64 (n : Int)) ∧ Rr w0 w' R l a' e' := by
  have hle := rdN_le l (a, e) h.le
  refine (rInt_any _ R l a e w h.rdr h.len h.le).mono ?_
  rintro r w' ⟨rfl, h', hg⟩
  rw [hr] at hle
  simp only [rdN, Prod.mk.injEq] at hr
  obtain ⟨rfl, rfl, rfl⟩ := hr
  exact ⟨rfl, h.turn h' hg hle⟩

theorem rqInt_any {w0 w : World} {Q : Nat} {v : Value} {l : List UInt8} {a e n a' e' : Nat} (h : Rq w0 w Q v l a e) (hr : rdN l (a, e) = (n, (a', e'))) :
    Calls Try.prog 68 #[.pointer (some ⟨Q, 0, none⟩)] w fun r w' => r = .returned (.int .i64 (n : Int)) ∧ Rq w0 w' Q v l a' e' := by
  have hle := rdN_le l (a, e) h.le
  refine (qInt_any _ Q v l a e w h.rrd h.len h.le).mono ?_
  rintro r w' ⟨rfl, h', hg⟩
  rw [hr] at hle
  simp only [rdN, Prod.mk.injEq] at hr
  obtain ⟨rfl, rfl, rfl⟩ := hr
  exact ⟨rfl, h.turn h' hg hle⟩

theorem rrBytes_any {w0 w : World} {R : Nat} {l t : List UInt8} {a e a' e' : Nat} (most : Int) (h : Rr w0 w R l a e) (hr : rdB l most (a, e) = (t, (a', e'))) :
    Calls Try.prog 67 #[.pointer (some ⟨R, 0, none⟩), .int .i64 most] w fun r w' => ∃ v, r = .returned v ∧ Ow w.heap.size w' v t ∧ Rr w0 w' R l a' e' ∧ w.heap.size ≤ w'.heap.size := by
  have hle := rdB_le l most (a, e) h.le
  refine (rBytes_any _ R l a e most w h.rdr h.len h.le).mono ?_
  rintro r w' ⟨v, rfl, hO, h', hg⟩
  rw [hr] at hle
  simp only [rdB, Prod.mk.injEq] at hr
  obtain ⟨rfl, rfl, rfl⟩ := hr
  exact ⟨v, rfl, hO, h.turn h' hg hle, hg.size⟩

theorem rqBytes_any {w0 w : World} {Q : Nat} {v : Value} {l t : List UInt8} {a e a' e' : Nat} (most : Int) (h : Rq w0 w Q v l a e) (hr : rdB l most (a, e) = (t, (a', e'))) :
    Calls Try.prog 69 #[.pointer (some ⟨Q, 0, none⟩), .int .i64 most] w fun r w' => ∃ u, r = .returned u ∧ Sl w'.heap.size w' u t ∧ Rq w0 w' Q v l a' e' := by
  have hle := rdB_le l most (a, e) h.le
  refine (qBytes_any _ Q v l a e most w h.rrd h.len h.le).mono ?_
  rintro r w' ⟨u, rfl, hS, h', hg⟩
  rw [hr] at hle
  simp only [rdB, Prod.mk.injEq] at hr
  obtain ⟨rfl, rfl, rfl⟩ := hr
  exact ⟨u, rfl, hS, h.turn h' hg hle⟩

theorem rrText_any {w0 w : World} {R : Nat} {l t : List UInt8} {a e a' e' : Nat} (most : Int) (h : Rr w0 w R l a e) (hr : rdB l most (a, e) = (t, (a', e'))) :
    Calls Try.prog 78 #[.pointer (some ⟨R, 0, none⟩), .int .i64 most] w fun r w' => r = .returned (.string ⟨t.toArray⟩) ∧ Rr w0 w' R l a' e' := by
  have hle := rdB_le l most (a, e) h.le
  refine (rText_any _ R l a e most w h.rdr h.len h.le).mono ?_
  rintro r w' ⟨rfl, h', hg⟩
  rw [hr] at hle
  simp only [rdB, Prod.mk.injEq] at hr
  obtain ⟨rfl, rfl, rfl⟩ := hr
  exact ⟨rfl, h.turn h' hg hle⟩

theorem rqText_any {w0 w : World} {Q : Nat} {v : Value} {l t : List UInt8} {a e a' e' : Nat} (most : Int) (h : Rq w0 w Q v l a e) (hr : rdB l most (a, e) = (t, (a', e'))) :
    Calls Try.prog 79 #[.pointer (some ⟨Q, 0, none⟩), .int .i64 most] w fun r w' => r = .returned (.string ⟨t.toArray⟩) ∧ Rq w0 w' Q v l a' e' := by
  have hle := rdB_le l most (a, e) h.le
  refine (qText_any _ Q v l a e most w h.rrd h.len h.le).mono ?_
  rintro r w' ⟨rfl, h', hg⟩
  rw [hr] at hle
  simp only [rdB, Prod.mk.injEq] at hr
  obtain ⟨rfl, rfl, rfl⟩ := hr
  exact ⟨rfl, h.turn h' hg hle⟩

theorem rrDone_any {w0 w : World} {R : Nat} {l : List UInt8} {a e : Nat} (h : Rr w0 w R l a e) :
    Calls Try.prog 106 #[.pointer (some ⟨R, 0, none⟩)] w fun r w' => r = .returned (.int .i64 (doneE l a e : Int)) ∧ Below w.heap.size w w' := by
  refine (rDone_any _ R l a e w h.rdr h.len h.le).mono ?_
  rintro r w' ⟨rfl, n, rfl⟩
  exact ⟨rfl, rfl, rfl, rfl, Nat.le_refl _, fun _ _ => rfl⟩

theorem rqDone_any {w0 w : World} {Q : Nat} {v : Value} {l : List UInt8} {a e : Nat} (h : Rq w0 w Q v l a e) :
    Calls Try.prog 70 #[.pointer (some ⟨Q, 0, none⟩)] w fun r w' => r = .returned (.int .i64 (doneE l a e : Int)) ∧ Below w.heap.size w w' := by
  refine (qDone_any _ Q v l a e w h.rrd h.len h.le).mono ?_
  rintro r w' ⟨rfl, n, rfl⟩
  exact ⟨rfl, rfl, rfl, rfl, Nat.le_refl _, fun _ _ => rfl⟩
end Go.Proofs.Ytfnnbfgfmbiabaa

/-
  The plain kinds: their texts, read and written, as plain mathematics.
-/
namespace Go.Proofs.Ytfnnbfgfmbiabaa
open Go.RowKit Go.Shelf

theorem numB_len (n : Nat) : (numB n).length ≤ 10 := num_len_le 9 n
theorem ckState_nums {t v c : Int} (h : ckState t v c = 0) : isNumB t = true ∧ isNumB v = true ∧ isNumB c = true := by
  obtain ⟨h1, h2, h3⟩ := ckState_ok h
  exact ⟨(isIn_num _ _ _ (by omega) (by omega) h1).1, (isIn_num _ _ _ (by omega) (by omega) h3).1, (isIn_num _ _ _ (by omega) (by omega) h2).1⟩
theorem txState_len (t v c : Int) : (txState t v c).length ≤ 30 := by
  have hbt := numB_len t.toNat
  have hbv := numB_len v.toNat
  have hbc := numB_len c.toNat
  simp [txState]; omega

def txReply (c : Int) (m : List UInt8) : List UInt8 := numB c.toNat ++ (numB m.length ++ m)
def rdReply (l : List UInt8) : (Nat × List UInt8) × (Nat × Nat) := (((rdN l (0, 0)).1, (rdB l 1024 (rdN l (0, 0)).2).1), (rdB l 1024 (rdN l (0, 0)).2).2)
def geReply (l : List UInt8) : Nat := if doneE l (rdReply l).2.1 (rdReply l).2.2 = 0 then ckReply ((rdReply l).1.1 : Int) ((rdReply l).1.2).length else doneE l (rdReply l).2.1 (rdReply l).2.2
def goReply (l : List UInt8) : Nat × List UInt8 := if geReply l = 0 then (rdReply l).1 else (0, [])
theorem ckReply_ok {c : Int} {n : Nat} (h : ckReply c n = 0) : isNumB c = true ∧ (n : Int) ≤ 1024 := by
  unfold ckReply at h
  cases h1 : isIn c 1 10 <;> simp only [h1, if_true, if_false, Bool.true_eq_false] at h <;> try (simp at h; done)
  refine ⟨(isIn_num _ _ _ (by omega) (by omega) h1).1, ?_⟩
  by_cases hn : (1024 : Int) < (n : Int)
  · rw [if_pos hn] at h; simp at h
  · omega
theorem rdReply_tx (c : Nat) (m : List UInt8) (hc : c ≤ 4611686018427387904) (hm : (m.length : Int) ≤ 1024) : rdReply (numB c ++ (numB m.length ++ m)) = ((c, m), ((numB c ++ (numB m.length ++ m)).length, 0)) := by
  have e0 := rdN_mid ([]) c ((numB m.length ++ m)) hc
  have e1 := rdB_mid (numB c) m ([]) 1024 (by omega) hm
  simp only [List.nil_append, List.append_nil, List.length_nil] at e0 e1
  unfold rdReply
  rw [e0]; simp only
  rw [e1]

theorem geReply_tx {c : Int} {m : List UInt8} (h : ckReply c m.length = 0) : geReply (txReply c m) = 0 ∧ goReply (txReply c m) = (c.toNat, m) := by
  obtain ⟨kc, km⟩ := ckReply_ok h
  have rc : 0 ≤ c ∧ c ≤ 4611686018427387904 := by simpa [isNumB] using kc
  have cc : ((c.toNat : Nat) : Int) = c := by omega
  have hr := rdReply_tx c.toNat m (by omega) km
  have hg : geReply (txReply c m) = 0 := by
    unfold geReply txReply
    rw [hr]; simp only; rw [if_pos (doneE_end _), cc, h]
  refine ⟨hg, ?_⟩
  unfold goReply
  rw [if_pos hg]
  unfold txReply
  rw [hr]
theorem txReply_len (c : Int) (m : List UInt8) : (txReply c m).length ≤ 20 + m.length := by
  have hbc := numB_len c.toNat
  have hbm := numB_len m.length
  simp [txReply]; omega

def txSnap (i t : Int) (m : List UInt8) : List UInt8 := numB i.toNat ++ numB t.toNat ++ (numB m.length ++ m)
def rdSnap (l : List UInt8) : (Nat × Nat × List UInt8) × (Nat × Nat) := (((rdN l (0, 0)).1, (rdN l (rdN l (0, 0)).2).1, (rdB l 524288 (rdN l (rdN l (0, 0)).2).2).1), (rdB l 524288 (rdN l (rdN l (0, 0)).2).2).2)
def geSnap (l : List UInt8) : Nat := if doneE l (rdSnap l).2.1 (rdSnap l).2.2 = 0 then ckSnap ((rdSnap l).1.1 : Int) ((rdSnap l).1.2.1 : Int) ((rdSnap l).1.2.2).length else doneE l (rdSnap l).2.1 (rdSnap l).2.2
def goSnap (l : List UInt8) : Nat × Nat × List UInt8 := if geSnap l = 0 then (rdSnap l).1 else (0, 0, [])
theorem ckSnap_ok {i t : Int} {n : Nat} (h : ckSnap i t n = 0) : isNumB i = true ∧ isNumB t = true ∧ (n : Int) ≤ 524288 := by
  unfold ckSnap at h
  by_cases h0 : i = 0 ∧ t = 0 ∧ n = 0
  · obtain ⟨rfl, rfl, rfl⟩ := h0; decide
  · rw [if_neg h0] at h
    cases h1 : isIn i 1 4611686018427387904 <;> cases h2 : isIn t 1 4611686018427387904 <;> simp [h1, h2] at h
    exact ⟨(isIn_num _ _ _ (by omega) (by omega) h1).1, (isIn_num _ _ _ (by omega) (by omega) h2).1, h⟩
theorem rdSnap_tx (i t : Nat) (m : List UInt8) (hi : i ≤ 4611686018427387904) (ht : t ≤ 4611686018427387904) (hm : (m.length : Int) ≤ 524288) : rdSnap (numB i ++ numB t ++ (numB m.length ++ m)) = ((i, t, m), ((numB i ++ numB t ++ (numB m.length ++ m)).length, 0)) := by
  have e0 := rdN_mid ([]) i (numB t ++ (numB m.length ++ m)) hi
  have e1 := rdN_mid (numB i) t ((numB m.length ++ m)) ht
  have e2 := rdB_mid (numB i ++ numB t) m ([]) 524288 (by omega) hm
  simp only [List.nil_append, List.append_nil, List.append_assoc, List.length_nil] at e0 e1 e2
  unfold rdSnap
  simp only [List.append_assoc]
  rw [e0]; simp only
  rw [e1]; simp only
  rw [e2]

theorem geSnap_tx {i t : Int} {m : List UInt8} (h : ckSnap i t m.length = 0) : geSnap (txSnap i t m) = 0 ∧ goSnap (txSnap i t m) = (i.toNat, t.toNat, m) := by
  obtain ⟨ki, kt, km⟩ := ckSnap_ok h
  have ri : 0 ≤ i ∧ i ≤ 4611686018427387904 := by simpa [isNumB] using ki
  have ci : ((i.toNat : Nat) : Int) = i := by omega
  have rt : 0 ≤ t ∧ t ≤ 4611686018427387904 := by simpa [isNumB] using kt
  have ct : ((t.toNat : Nat) : Int) = t := by omega
  have hr := rdSnap_tx i.toNat t.toNat m (by omega) (by omega) km
  have hg : geSnap (txSnap i t m) = 0 := by
    unfold geSnap txSnap
    rw [hr]; simp only; rw [if_pos (doneE_end _), ci, ct, h]
  refine ⟨hg, ?_⟩
  unfold goSnap
  rw [if_pos hg]
  unfold txSnap
  rw [hr]
theorem txSnap_len (i t : Int) (m : List UInt8) : (txSnap i t m).length ≤ 30 + m.length := by
  have hbi := numB_len i.toNat
  have hbt := numB_len t.toNat
  have hbm := numB_len m.length
  simp [txSnap]; omega

def txEntry (t i k : Int) (m : List UInt8) : List UInt8 := numB t.toNat ++ numB i.toNat ++ numB k.toNat ++ (numB m.length ++ m)
def rdEntry (l : List UInt8) : (Nat × Nat × Nat × List UInt8) × (Nat × Nat) := (((rdN l (0, 0)).1, (rdN l (rdN l (0, 0)).2).1, (rdN l (rdN l (rdN l (0, 0)).2).2).1, (rdB l 4096 (rdN l (rdN l (rdN l (0, 0)).2).2).2).1), (rdB l 4096 (rdN l (rdN l (rdN l (0, 0)).2).2).2).2)
def geEntry (l : List UInt8) : Nat := if doneE l (rdEntry l).2.1 (rdEntry l).2.2 = 0 then ckEntry ((rdEntry l).1.1 : Int) ((rdEntry l).1.2.1 : Int) ((rdEntry l).1.2.2.1 : Int) ((rdEntry l).1.2.2.2).length else doneE l (rdEntry l).2.1 (rdEntry l).2.2
def goEntry (l : List UInt8) : Nat × Nat × Nat × List UInt8 := if geEntry l = 0 then (rdEntry l).1 else (0, 0, 0, [])
theorem ckEntry_ok {t i k : Int} {n : Nat} (h : ckEntry t i k n = 0) : isNumB t = true ∧ isNumB i = true ∧ isNumB k = true ∧ (n : Int) ≤ 4096 := by
  unfold ckEntry at h
  cases h1 : isIn t 1 4611686018427387904 <;> cases h2 : isIn i 1 4611686018427387904 <;> simp only [h1, h2, if_true, if_false, Bool.true_eq_false] at h <;> try (simp at h; done)
  refine ⟨(isIn_num _ _ _ (by omega) (by omega) h1).1, (isIn_num _ _ _ (by omega) (by omega) h2).1, ?_⟩
  by_cases hk : k ≠ 0 ∧ k ≠ 1
  · rw [if_pos hk] at h; simp at h
  · rw [if_neg hk] at h
    by_cases hn : (4096 : Int) < (n : Int)
    · rw [if_pos hn] at h; simp at h
    · exact ⟨by simp [isNumB]; omega, by omega⟩
theorem rdEntry_tx (t i k : Nat) (m : List UInt8) (ht : t ≤ 4611686018427387904) (hi : i ≤ 4611686018427387904) (hk : k ≤ 4611686018427387904) (hm : (m.length : Int) ≤ 4096) : rdEntry (numB t ++ numB i ++ numB k ++ (numB m.length ++ m)) = ((t, i, k, m), ((numB t ++ numB i ++ numB k ++ (numB m.length ++ m)).length, 0)) := by
  have e0 := rdN_mid ([]) t (numB i ++ numB k ++ (numB m.length ++ m)) ht
  have e1 := rdN_mid (numB t) i (numB k ++ (numB m.length ++ m)) hi
  have e2 := rdN_mid (numB t ++ numB i) k ((numB m.length ++ m)) hk
  have e3 := rdB_mid (numB t ++ numB i ++ numB k) m ([]) 4096 (by omega) hm
  simp only [List.nil_append, List.append_nil, List.append_assoc, List.length_nil] at e0 e1 e2 e3
  unfold rdEntry
  simp only [List.append_assoc]
  rw [e0]; simp only
  rw [e1]; simp only
  rw [e2]; simp only
  rw [e3]

theorem geEntry_tx {t i k : Int} {m : List UInt8} (h : ckEntry t i k m.length = 0) : geEntry (txEntry t i k m) = 0 ∧ goEntry (txEntry t i k m) = (t.toNat, i.toNat, k.toNat, m) := by
  obtain ⟨kt, ki, kk, km⟩ := ckEntry_ok h
  have rt : 0 ≤ t ∧ t ≤ 4611686018427387904 := by simpa [isNumB] using kt
  have ct : ((t.toNat : Nat) : Int) = t := by omega
  have ri : 0 ≤ i ∧ i ≤ 4611686018427387904 := by simpa [isNumB] using ki
  have ci : ((i.toNat : Nat) : Int) = i := by omega
  have rk : 0 ≤ k ∧ k ≤ 4611686018427387904 := by simpa [isNumB] using kk
  have ck : ((k.toNat : Nat) : Int) = k := by omega
  have hr := rdEntry_tx t.toNat i.toNat k.toNat m (by omega) (by omega) (by omega) km
  have hg : geEntry (txEntry t i k m) = 0 := by
    unfold geEntry txEntry
    rw [hr]; simp only; rw [if_pos (doneE_end _), ct, ci, ck, h]
  refine ⟨hg, ?_⟩
  unfold goEntry
  rw [if_pos hg]
  unfold txEntry
  rw [hr]
theorem txEntry_len (t i k : Int) (m : List UInt8) : (txEntry t i k m).length ≤ 40 + m.length := by
  have hbt := numB_len t.toNat
  have hbi := numB_len i.toNat
  have hbk := numB_len k.toNat
  have hbm := numB_len m.length
  simp [txEntry]; omega

def txCommand (o c s : Int) (k v d : List UInt8) : List UInt8 := numB o.toNat ++ numB c.toNat ++ numB s.toNat ++ (numB k.length ++ k) ++ (numB v.length ++ v) ++ (numB d.length ++ d)
def rdCommand (l : List UInt8) : (Nat × Nat × Nat × List UInt8 × List UInt8 × List UInt8) × (Nat × Nat) := (((rdN l (0, 0)).1, (rdN l (rdN l (0, 0)).2).1, (rdN l (rdN l (rdN l (0, 0)).2).2).1, (rdB l 64 (rdN l (rdN l (rdN l (0, 0)).2).2).2).1, (rdB l 1024 (rdB l 64 (rdN l (rdN l (rdN l (0, 0)).2).2).2).2).1, (rdB l 1024 (rdB l 1024 (rdB l 64 (rdN l (rdN l (rdN l (0, 0)).2).2).2).2).2).1), (rdB l 1024 (rdB l 1024 (rdB l 64 (rdN l (rdN l (rdN l (0, 0)).2).2).2).2).2).2)
def geCommand (l : List UInt8) : Nat := if doneE l (rdCommand l).2.1 (rdCommand l).2.2 = 0 then ckCommand ((rdCommand l).1.1 : Int) ((rdCommand l).1.2.1 : Int) ((rdCommand l).1.2.2.1 : Int) (rdCommand l).1.2.2.2.1 (rdCommand l).1.2.2.2.2.1 (rdCommand l).1.2.2.2.2.2 else doneE l (rdCommand l).2.1 (rdCommand l).2.2
def goCommand (l : List UInt8) : Nat × Nat × Nat × List UInt8 × List UInt8 × List UInt8 := if geCommand l = 0 then (rdCommand l).1 else (0, 0, 0, [], [], [])
theorem ckCommand_ok {o c s : Int} {k v d : List UInt8} (h : ckCommand o c s k v d = 0) : isNumB o = true ∧ isNumB c = true ∧ isNumB s = true ∧ (k.length : Int) ≤ 64 ∧ (v.length : Int) ≤ 1024 ∧ (d.length : Int) ≤ 1024 := by
  unfold ckCommand at h
  cases h1 : isIn o 2 4 <;> cases h2 : isIn c 1 4611686018427387904 <;> cases h3 : isIn s 1 4611686018427387904 <;> simp only [h1, h2, h3, if_true, if_false, Bool.true_eq_false] at h <;> try (simp at h; done)
  refine ⟨(isIn_num _ _ _ (by omega) (by omega) h1).1, (isIn_num _ _ _ (by omega) (by omega) h2).1, (isIn_num _ _ _ (by omega) (by omega) h3).1, ?_⟩
  by_cases e1 : (64 : Int) < (k.length : Int)
  · rw [if_pos e1] at h; simp at h
  · rw [if_neg e1] at h
    by_cases e2 : (1024 : Int) < (v.length : Int)
    · rw [if_pos e2] at h; simp at h
    · rw [if_neg e2] at h
      by_cases e3 : (1024 : Int) < (d.length : Int)
      · rw [if_pos e3] at h; simp at h
      · exact ⟨by omega, by omega, by omega⟩
theorem rdCommand_tx (o c s : Nat) (k v d : List UInt8) (ho : o ≤ 4611686018427387904) (hc : c ≤ 4611686018427387904) (hs : s ≤ 4611686018427387904) (hk : (k.length : Int) ≤ 64) (hv : (v.length : Int) ≤ 1024) (hd : (d.length : Int) ≤ 1024) : rdCommand (numB o ++ numB c ++ numB s ++ (numB k.length ++ k) ++ (numB v.length ++ v) ++ (numB d.length ++ d)) = ((o, c, s, k, v, d), ((numB o ++ numB c ++ numB s ++ (numB k.length ++ k) ++ (numB v.length ++ v) ++ (numB d.length ++ d)).length, 0)) := by
  have e0 := rdN_mid ([]) o (numB c ++ numB s ++ (numB k.length ++ k) ++ (numB v.length ++ v) ++ (numB d.length ++ d)) ho
  have e1 := rdN_mid (numB o) c (numB s ++ (numB k.length ++ k) ++ (numB v.length ++ v) ++ (numB d.length ++ d)) hc
  have e2 := rdN_mid (numB o ++ numB c) s ((numB k.length ++ k) ++ (numB v.length ++ v) ++ (numB d.length ++ d)) hs
  have e3 := rdB_mid (numB o ++ numB c ++ numB s) k ((numB v.length ++ v) ++ (numB d.length ++ d)) 64 (by omega) hk
  have e4 := rdB_mid (numB o ++ numB c ++ numB s ++ (numB k.length ++ k)) v ((numB d.length ++ d)) 1024 (by omega) hv
  have e5 := rdB_mid (numB o ++ numB c ++ numB s ++ (numB k.length ++ k) ++ (numB v.length ++ v)) d ([]) 1024 (by omega) hd
  simp only [List.nil_append, List.append_nil, List.append_assoc, List.length_nil] at e0 e1 e2 e3 e4 e5
  unfold rdCommand
  simp only [List.append_assoc]
  rw [e0]; simp only
  rw [e1]; simp only
  rw [e2]; simp only
  rw [e3]; simp only
  rw [e4]; simp only
  rw [e5]

theorem geCommand_tx {o c s : Int} {k v d : List UInt8} (h : ckCommand o c s k v d = 0) : geCommand (txCommand o c s k v d) = 0 ∧ goCommand (txCommand o c s k v d) = (o.toNat, c.toNat, s.toNat, k, v, d) := by
  obtain ⟨ko, kc, ks, kk, kv, kd⟩ := ckCommand_ok h
  have ro : 0 ≤ o ∧ o ≤ 4611686018427387904 := by simpa [isNumB] using ko
  have co : ((o.toNat : Nat) : Int) = o := by omega
  have rc : 0 ≤ c ∧ c ≤ 4611686018427387904 := by simpa [isNumB] using kc
  have cc : ((c.toNat : Nat) : Int) = c := by omega
  have rs : 0 ≤ s ∧ s ≤ 4611686018427387904 := by simpa [isNumB] using ks
  have cs : ((s.toNat : Nat) : Int) = s := by omega
  have hr := rdCommand_tx o.toNat c.toNat s.toNat k v d (by omega) (by omega) (by omega) kk kv kd
  have hg : geCommand (txCommand o c s k v d) = 0 := by
    unfold geCommand txCommand
    rw [hr]; simp only; rw [if_pos (doneE_end _), co, cc, cs, h]
  refine ⟨hg, ?_⟩
  unfold goCommand
  rw [if_pos hg]
  unfold txCommand
  rw [hr]
theorem txCommand_len (o c s : Int) (k v d : List UInt8) : (txCommand o c s k v d).length ≤ 60 + k.length + v.length + d.length := by
  have hbo := numB_len o.toNat
  have hbc := numB_len c.toNat
  have hbs := numB_len s.toNat
  have hbk := numB_len k.length
  have hbv := numB_len v.length
  have hbd := numB_len d.length
  simp [txCommand]; omega
end Go.Proofs.Ytfnnbfgfmbiabaa

/-
  Put of the plain kinds, the code's and the document's.
-/
namespace Go.Proofs.Ytfnnbfgfmbiabaa
open Go.RowKit Go.Shelf

set_option maxRecDepth 100000 in
set_option maxHeartbeats 2000000 in
theorem putState_any (t v c : Int) (w : World) : Calls Try.prog 21 #[.agg #[], .agg #[.int .i64 t, .int .i64 v, .int .i64 c]] w fun r w' =>
    ∃ u, r = .returned (.tuple #[u, .int .i64 (ckState t v c : Int)]) ∧ Ow w.heap.size w' u (if ckState t v c = 0 then txState t v c else []) ∧ Below w.heap.size w w' := by
  have hbt := numB_len t.toNat
  have hbv := numB_len v.toNat
  have hbc := numB_len c.toNat
  obtain ⟨W0, hW0⟩ : ∃ W0, ((w.alloc (.cells #[] 46)).alloc (.cells #[.int .i64 t, .int .i64 v, .int .i64 c] 45)) = W0 := ⟨_, rfl⟩
  have HW0 : Hid (((w.alloc (.cells #[] 46)).alloc (.cells #[.int .i64 t, .int .i64 v, .int .i64 c] 45)) = W0) := hW0
  have HB0 : Hid (Below w.heap.size w W0) := by show Below w.heap.size w W0; rw [← hW0]; exact (((Below.refl _ w).alloc (by simp) _).alloc (by simp) _)
  have HQ : Hid (∀ w', Below W0.heap.size W0 w' → w'.cell? ⟨w.heap.size + 1, 0, none⟩ = some (.int .i64 t) ∧ w'.cell? ⟨w.heap.size + 1, 1, none⟩ = some (.int .i64 v) ∧ w'.cell? ⟨w.heap.size + 1, 2, none⟩ = some (.int .i64 c)) := fun w' hB => by
    have hlt : w.heap.size + 1 < W0.heap.size := by rw [← hW0]; simp
    have hh : W0.heap[w.heap.size + 1]? = some (.cells #[.int .i64 t, .int .i64 v, .int .i64 c] 45 (0, 0)) := by
      rw [← hW0]; exact (by simpa using World.alloc_heap_new (w.alloc (.cells #[] 46)) _)
    have h2 := (hB.block _ hlt).trans hh
    refine ⟨?_, ?_, ?_⟩ <;> (simp only [World.cell?, h2]; rfl)
  clear hW0
  by_cases hk : ckState t v c = 0
  · rw [if_pos hk]
    obtain ⟨kt, kv, kc⟩ := ckState_nums hk
    go_enter Try.func21, Try.ntmps21
    go_wp2_with (go_at_call 23; refine (ckState_any t v c _).mono ?_; rintro e w1 ⟨rfl, hB1⟩; rw [HW0.out] at hB1; obtain ⟨q0, q1, q2⟩ := HQ.out w1 hB1)
    go_wp2_with fail
    refine (newW_any w1).mono ?_
    rintro r w2 ⟨rfl, h2⟩
    obtain ⟨q0, q1, q2⟩ := HQ.out w2 (hB1.trans (h2.bel.mono hB1.size))
    go_wp2_with fail
    refine (wrInt_any t h2 (by simp <;> omega) kt).mono ?_
    rintro r w3 ⟨rfl, h3⟩
    obtain ⟨q0, q1, q2⟩ := HQ.out w3 (hB1.trans (h3.bel.mono hB1.size))
    go_wp2_with fail
    refine (wrInt_any v h3 (by simp <;> omega) kv).mono ?_
    rintro r w4 ⟨rfl, h4⟩
    obtain ⟨q0, q1, q2⟩ := HQ.out w4 (hB1.trans (h4.bel.mono hB1.size))
    go_wp2_with fail
    refine (wrInt_any c h4 (by simp <;> omega) kc).mono ?_
    rintro r w5 ⟨rfl, h5⟩
    obtain ⟨q0, q1, q2⟩ := HQ.out w5 (hB1.trans (h5.bel.mono hB1.size))
    go_wp2_with fail
    refine (wrDone_any h5 (by simp <;> omega)).mono ?_
    rintro r w9 ⟨u, rfl, hO9, hB9⟩
    go_wp2
    go_ret2
    refine ⟨u, by rw [hk]; rfl, ?_, HB0.out.trans ((hB1.trans (hB9.mono hB1.size)).mono HB0.out.size)⟩
    have hO := hO9.base (N' := w.heap.size) (by have := hB1.size; have := HB0.out.size; omega)
    simpa [txState, numB] using hO
  · rw [if_neg hk]
    have ck1 := fun w' => ckState_any t v c w'
    generalize ckState t v c = ke at *
    have hke : ((ke : Int) != 0) = true := by simp; omega
    go_enter Try.func21, Try.ntmps21
    go_wp2_with (go_at_call 23; refine (ck1 _).mono ?_; rintro e w1 ⟨rfl, hB1⟩; rw [HW0.out] at hB1)
    go_ret2
    exact ⟨_, rfl, Ow.nil _ _, HB0.out.trans (hB1.mono HB0.out.size)⟩

set_option maxRecDepth 100000 in
set_option maxHeartbeats 2000000 in
theorem refPutState_any (t v c : Int) (w : World) : Calls Try.prog 22 #[.agg #[.int .i64 t, .int .i64 v, .int .i64 c]] w fun r w' =>
    ∃ u, r = .returned (.tuple #[u, .int .i64 (ckState t v c : Int)]) ∧ Sl w'.heap.size w' u (if ckState t v c = 0 then txState t v c else []) ∧ Below w.heap.size w w' := by
  have hbt := numB_len t.toNat
  have hbv := numB_len v.toNat
  have hbc := numB_len c.toNat
  obtain ⟨W0, hW0⟩ : ∃ W0, (w.alloc (.cells #[.int .i64 t, .int .i64 v, .int .i64 c] 45)) = W0 := ⟨_, rfl⟩
  have HW0 : Hid ((w.alloc (.cells #[.int .i64 t, .int .i64 v, .int .i64 c] 45)) = W0) := hW0
  have HB0 : Hid (Below w.heap.size w W0) := by show Below w.heap.size w W0; rw [← hW0]; exact ((Below.refl _ w).alloc (by simp) _)
  have HQ : Hid (∀ w', Below W0.heap.size W0 w' → w'.cell? ⟨w.heap.size, 0, none⟩ = some (.int .i64 t) ∧ w'.cell? ⟨w.heap.size, 1, none⟩ = some (.int .i64 v) ∧ w'.cell? ⟨w.heap.size, 2, none⟩ = some (.int .i64 c)) := fun w' hB => by
    have hlt : w.heap.size < W0.heap.size := by rw [← hW0]; simp
    have hh : W0.heap[w.heap.size]? = some (.cells #[.int .i64 t, .int .i64 v, .int .i64 c] 45 (0, 0)) := by
      rw [← hW0]; exact World.alloc_heap_new w _
    have h2 := (hB.block _ hlt).trans hh
    refine ⟨?_, ?_, ?_⟩ <;> (simp only [World.cell?, h2]; rfl)
  clear hW0
  by_cases hk : ckState t v c = 0
  · rw [if_pos hk]
    obtain ⟨kt, kv, kc⟩ := ckState_nums hk
    go_enter Try.func22, Try.ntmps22
    go_wp2_with (go_at_call 24; refine (refCkState_any t v c _).mono ?_; rintro e w1 ⟨rfl, hB1⟩; rw [HW0.out] at hB1; obtain ⟨q0, q1, q2⟩ := HQ.out w1 hB1; have h2 := newV (w := w1); obtain ⟨q0, q1, q2⟩ := HQ.out _ (hB1.trans (h2.bel.mono hB1.size)))
    go_wp2_with fail
    refine (wvInt_any t h2 (by simp <;> omega) kt).mono ?_
    rintro r w3 ⟨rfl, h3⟩
    obtain ⟨q0, q1, q2⟩ := HQ.out w3 (hB1.trans (h3.bel.mono hB1.size))
    go_wp2_with fail
    refine (wvInt_any v h3 (by simp <;> omega) kv).mono ?_
    rintro r w4 ⟨rfl, h4⟩
    obtain ⟨q0, q1, q2⟩ := HQ.out w4 (hB1.trans (h4.bel.mono hB1.size))
    go_wp2_with fail
    refine (wvInt_any c h4 (by simp <;> omega) kc).mono ?_
    rintro r w5 ⟨rfl, h5⟩
    obtain ⟨q0, q1, q2⟩ := HQ.out w5 (hB1.trans (h5.bel.mono hB1.size))
    go_wp2_with fail
    refine (wvDone_any h5).mono ?_
    rintro r w9 ⟨u, rfl, hO9, hB9⟩
    go_wp2
    go_ret2
    refine ⟨u, by rw [hk]; rfl, ?_, HB0.out.trans ((hB1.trans (hB9.mono hB1.size)).mono HB0.out.size)⟩
    simpa [txState, numB] using hO9
  · rw [if_neg hk]
    have ck1 := fun w' => refCkState_any t v c w'
    generalize ckState t v c = ke at *
    have hke : ((ke : Int) != 0) = true := by simp; omega
    go_enter Try.func22, Try.ntmps22
    go_wp2_with (go_at_call 24; refine (ck1 _).mono ?_; rintro e w1 ⟨rfl, hB1⟩; rw [HW0.out] at hB1)
    go_ret2
    exact ⟨_, rfl, Sl.nil _ _, HB0.out.trans (hB1.mono HB0.out.size)⟩

set_option maxRecDepth 100000 in
set_option maxHeartbeats 2000000 in
theorem putReply_any (c : Int) (m : List UInt8) (w : World) : Calls Try.prog 40 #[.agg #[], .agg #[.int .i64 c, .string ⟨m.toArray⟩]] w fun r w' =>
    ∃ u, r = .returned (.tuple #[u, .int .i64 (ckReply c m.length : Int)]) ∧ Ow w.heap.size w' u (if ckReply c m.length = 0 then txReply c m else []) ∧ Below w.heap.size w w' := by
  have hbc := numB_len c.toNat
  have hbm := numB_len m.length
  obtain ⟨W0, hW0⟩ : ∃ W0, ((w.alloc (.cells #[] 83)).alloc (.cells #[.int .i64 c, .string ⟨m.toArray⟩] 82)) = W0 := ⟨_, rfl⟩
  have HW0 : Hid (((w.alloc (.cells #[] 83)).alloc (.cells #[.int .i64 c, .string ⟨m.toArray⟩] 82)) = W0) := hW0
  have HB0 : Hid (Below w.heap.size w W0) := by show Below w.heap.size w W0; rw [← hW0]; exact (((Below.refl _ w).alloc (by simp) _).alloc (by simp) _)
  have HQ : Hid (∀ w', Below W0.heap.size W0 w' → w'.cell? ⟨w.heap.size + 1, 0, none⟩ = some (.int .i64 c) ∧ w'.cell? ⟨w.heap.size + 1, 1, none⟩ = some (.string ⟨m.toArray⟩)) := fun w' hB => by
    have hlt : w.heap.size + 1 < W0.heap.size := by rw [← hW0]; simp
    have hh : W0.heap[w.heap.size + 1]? = some (.cells #[.int .i64 c, .string ⟨m.toArray⟩] 82 (0, 0)) := by
      rw [← hW0]; exact (by simpa using World.alloc_heap_new (w.alloc (.cells #[] 83)) _)
    have h2 := (hB.block _ hlt).trans hh
    refine ⟨?_, ?_⟩ <;> (simp only [World.cell?, h2]; rfl)
  clear hW0
  by_cases hk : ckReply c m.length = 0
  · rw [if_pos hk]
    obtain ⟨kc, km⟩ := ckReply_ok hk
    go_enter Try.func40, Try.ntmps40
    go_wp2_with (go_at_call 42; refine (ckReply_any c m _).mono ?_; rintro e w1 ⟨rfl, hB1⟩; rw [HW0.out] at hB1; obtain ⟨q0, q1⟩ := HQ.out w1 hB1)
    go_wp2_with fail
    refine (newW_any w1).mono ?_
    rintro r w2 ⟨rfl, h2⟩
    obtain ⟨q0, q1⟩ := HQ.out w2 (hB1.trans (h2.bel.mono hB1.size))
    go_wp2_with fail
    refine (wrInt_any c h2 (by simp <;> omega) kc).mono ?_
    rintro r w3 ⟨rfl, h3⟩
    obtain ⟨q0, q1⟩ := HQ.out w3 (hB1.trans (h3.bel.mono hB1.size))
    go_wp2_with fail
    refine (wrText_any 1024 h3 (by simp <;> omega) (by omega) km).mono ?_
    rintro r w4 ⟨rfl, h4⟩
    obtain ⟨q0, q1⟩ := HQ.out w4 (hB1.trans (h4.bel.mono hB1.size))
    go_wp2_with fail
    refine (wrDone_any h4 (by simp <;> omega)).mono ?_
    rintro r w9 ⟨u, rfl, hO9, hB9⟩
    go_wp2
    go_ret2
    refine ⟨u, by rw [hk]; rfl, ?_, HB0.out.trans ((hB1.trans (hB9.mono hB1.size)).mono HB0.out.size)⟩
    have hO := hO9.base (N' := w.heap.size) (by have := hB1.size; have := HB0.out.size; omega)
    simpa [txReply, numB] using hO
  · rw [if_neg hk]
    have ck1 := fun w' => ckReply_any c m w'
    generalize ckReply c m.length = ke at *
    have hke : ((ke : Int) != 0) = true := by simp; omega
    go_enter Try.func40, Try.ntmps40
    go_wp2_with (go_at_call 42; refine (ck1 _).mono ?_; rintro e w1 ⟨rfl, hB1⟩; rw [HW0.out] at hB1)
    go_ret2
    exact ⟨_, rfl, Ow.nil _ _, HB0.out.trans (hB1.mono HB0.out.size)⟩

set_option maxRecDepth 100000 in
set_option maxHeartbeats 2000000 in
theorem refPutReply_any (c : Int) (m : List UInt8) (w : World) : Calls Try.prog 41 #[.agg #[.int .i64 c, .string ⟨m.toArray⟩]] w fun r w' =>
    ∃ u, r = .returned (.tuple #[u, .int .i64 (ckReply c m.length : Int)]) ∧ Sl w'.heap.size w' u (if ckReply c m.length = 0 then txReply c m else []) ∧ Below w.heap.size w w' := by
  have hbc := numB_len c.toNat
  have hbm := numB_len m.length
  obtain ⟨W0, hW0⟩ : ∃ W0, (w.alloc (.cells #[.int .i64 c, .string ⟨m.toArray⟩] 82)) = W0 := ⟨_, rfl⟩
  have HW0 : Hid ((w.alloc (.cells #[.int .i64 c, .string ⟨m.toArray⟩] 82)) = W0) := hW0
  have HB0 : Hid (Below w.heap.size w W0) := by show Below w.heap.size w W0; rw [← hW0]; exact ((Below.refl _ w).alloc (by simp) _)
  have HQ : Hid (∀ w', Below W0.heap.size W0 w' → w'.cell? ⟨w.heap.size, 0, none⟩ = some (.int .i64 c) ∧ w'.cell? ⟨w.heap.size, 1, none⟩ = some (.string ⟨m.toArray⟩)) := fun w' hB => by
    have hlt : w.heap.size < W0.heap.size := by rw [← hW0]; simp
    have hh : W0.heap[w.heap.size]? = some (.cells #[.int .i64 c, .string ⟨m.toArray⟩] 82 (0, 0)) := by
      rw [← hW0]; exact World.alloc_heap_new w _
    have h2 := (hB.block _ hlt).trans hh
    refine ⟨?_, ?_⟩ <;> (simp only [World.cell?, h2]; rfl)
  clear hW0
  by_cases hk : ckReply c m.length = 0
  · rw [if_pos hk]
    obtain ⟨kc, km⟩ := ckReply_ok hk
    go_enter Try.func41, Try.ntmps41
    go_wp2_with (go_at_call 43; refine (refCkReply_any c m _).mono ?_; rintro e w1 ⟨rfl, hB1⟩; rw [HW0.out] at hB1; obtain ⟨q0, q1⟩ := HQ.out w1 hB1; have h2 := newV (w := w1); obtain ⟨q0, q1⟩ := HQ.out _ (hB1.trans (h2.bel.mono hB1.size)))
    go_wp2_with fail
    refine (wvInt_any c h2 (by simp <;> omega) kc).mono ?_
    rintro r w3 ⟨rfl, h3⟩
    obtain ⟨q0, q1⟩ := HQ.out w3 (hB1.trans (h3.bel.mono hB1.size))
    go_wp2_with fail
    refine (wvText_any 1024 h3 (by simp <;> omega) (by omega) km).mono ?_
    rintro r w4 ⟨rfl, h4⟩
    obtain ⟨q0, q1⟩ := HQ.out w4 (hB1.trans (h4.bel.mono hB1.size))
    go_wp2_with fail
    refine (wvDone_any h4).mono ?_
    rintro r w9 ⟨u, rfl, hO9, hB9⟩
    go_wp2
    go_ret2
    refine ⟨u, by rw [hk]; rfl, ?_, HB0.out.trans ((hB1.trans (hB9.mono hB1.size)).mono HB0.out.size)⟩
    simpa [txReply, numB] using hO9
  · rw [if_neg hk]
    have ck1 := fun w' => refCkReply_any c m w'
    generalize ckReply c m.length = ke at *
    have hke : ((ke : Int) != 0) = true := by simp; omega
    go_enter Try.func41, Try.ntmps41
    go_wp2_with (go_at_call 43; refine (ck1 _).mono ?_; rintro e w1 ⟨rfl, hB1⟩; rw [HW0.out] at hB1)
    go_ret2
    exact ⟨_, rfl, Sl.nil _ _, HB0.out.trans (hB1.mono HB0.out.size)⟩

end Go.Proofs.Ytfnnbfgfmbiabaa

/-
  A read thing whole: what the generic function answers, at each kind.
-/
namespace Go.Proofs.Ytfnnbfgfmbiabaa
open Go.RowKit Go.Shelf

theorem bel_set {N : Nat} {w w' : World} {B o : Nat} (h : Below N w w') (hB : N ≤ B) (v : Value) : Below N w (w'.setCell ⟨B, o, none⟩ v) := h.setCell (p := ⟨B, o, none⟩) hB v

theorem Sl.grow {M B : Nat} {w w' : World} {v : Value} {l : List UInt8} (h : Sl M w v l) (hM : M ≤ w.heap.size) (hg : w.grownBy w' (some B)) (hne : l ≠ [] → v.ownBlock ≠ some B) : Sl w'.heap.size w' v l := by
  obtain ⟨a, cap, rfl, h1, h2, h3⟩ := h
  refine ⟨a, cap, rfl, h1, h2, ?_⟩
  by_cases hl : l = []
  · exact .inl hl
  · obtain ⟨b, off, rfl, hb, hc⟩ := h3.resolve_left hl
    have hz := hg.size
    refine .inr ⟨b, off, rfl, by omega, fun i hi => ?_⟩
    exact (World.cell?_of_block (hg.block b (by omega) (fun e => hne hl (by simp [Value.ownBlock, e]))) ).trans (hc i hi)
theorem Sl.not_at {M : Nat} {w : World} {v : Value} {l : List UInt8} (h : Sl M w v l) {R : Nat} {cs : Array Value} {t : TypeId} {z : Nat × Nat} (hR : w.heap[R]? = some (.cells cs t z)) (hcs : ∀ (i : Nat) (b : UInt8), cs[i]? ≠ some (encB b)) : l ≠ [] → v.ownBlock ≠ some R := by
  intro hl e
  obtain ⟨a, cap, rfl, h1, h2, h3⟩ := h
  obtain ⟨b, off, rfl, hb, hc⟩ := h3.resolve_left hl
  have hbR : b = R := by simpa [Value.ownBlock] using e
  subst hbR
  have h0 := hc 0 (List.length_pos_iff.2 hl)
  simp only [World.cell?, hR] at h0
  exact hcs _ _ h0

theorem cells2 {w : World} {B : Nat} {x0 x1 : Value} {t : TypeId} (h : w.heap[B]? = some (.cells #[x0, x1] t (0, 0))) :
    (w.cell? ⟨B, 0, none⟩ = some x0 ∧ w.cell? ⟨B, 1, none⟩ = some x1) ∧ (w.frozen? ⟨B, 0, none⟩ = false ∧ w.frozen? ⟨B, 1, none⟩ = false) := by
  refine ⟨⟨?_, ?_⟩, ⟨?_, ?_⟩⟩ <;> simp [World.cell?, World.frozen?, h]
theorem set2 {w : World} {B : Nat} {x0 x1 : Value} {t : TypeId} (h : w.heap[B]? = some (.cells #[x0, x1] t (0, 0))) (y0 y1 : Value) :
    ((w.setCell ⟨B, 0, none⟩ y0).setCell ⟨B, 1, none⟩ y1).heap[B]? = some (.cells #[y0, y1] t (0, 0)) := by
  rw [heap_set (heap_set h 0 y0) 1 y1]; rfl
theorem belset2 {N : Nat} {w0 w : World} {B : Nat} (h : Below N w0 w) (hB : N ≤ B) (y0 y1 : Value) : Below N w0 ((w.setCell ⟨B, 0, none⟩ y0).setCell ⟨B, 1, none⟩ y1) :=
  bel_set (bel_set h hB _) hB _
theorem grownset2 (w : World) (B : Nat) (y0 y1 : Value) : w.grownBy ((w.setCell ⟨B, 0, none⟩ y0).setCell ⟨B, 1, none⟩ y1) (some B) :=
  grown_trans (grown_set _ _ _ _) (grown_set _ _ _ _) (fun _ e => .inl e)
theorem cells3 {w : World} {B : Nat} {x0 x1 x2 : Value} {t : TypeId} (h : w.heap[B]? = some (.cells #[x0, x1, x2] t (0, 0))) :
    (w.cell? ⟨B, 0, none⟩ = some x0 ∧ w.cell? ⟨B, 1, none⟩ = some x1 ∧ w.cell? ⟨B, 2, none⟩ = some x2) ∧ (w.frozen? ⟨B, 0, none⟩ = false ∧ w.frozen? ⟨B, 1, none⟩ = false ∧ w.frozen? ⟨B, 2, none⟩ = false) := by
  refine ⟨⟨?_, ?_, ?_⟩, ⟨?_, ?_, ?_⟩⟩ <;> simp [World.cell?, World.frozen?, h]
theorem set3 {w : World} {B : Nat} {x0 x1 x2 : Value} {t : TypeId} (h : w.heap[B]? = some (.cells #[x0, x1, x2] t (0, 0))) (y0 y1 y2 : Value) :
    (((w.setCell ⟨B, 0, none⟩ y0).setCell ⟨B, 1, none⟩ y1).setCell ⟨B, 2, none⟩ y2).heap[B]? = some (.cells #[y0, y1, y2] t (0, 0)) := by
  rw [heap_set (heap_set (heap_set h 0 y0) 1 y1) 2 y2]; rfl
theorem belset3 {N : Nat} {w0 w : World} {B : Nat} (h : Below N w0 w) (hB : N ≤ B) (y0 y1 y2 : Value) : Below N w0 (((w.setCell ⟨B, 0, none⟩ y0).setCell ⟨B, 1, none⟩ y1).setCell ⟨B, 2, none⟩ y2) :=
  bel_set (bel_set (bel_set h hB _) hB _) hB _
theorem grownset3 (w : World) (B : Nat) (y0 y1 y2 : Value) : w.grownBy (((w.setCell ⟨B, 0, none⟩ y0).setCell ⟨B, 1, none⟩ y1).setCell ⟨B, 2, none⟩ y2) (some B) :=
  grown_trans (grown_trans (grown_set _ _ _ _) (grown_set _ _ _ _) (fun _ e => .inl e)) (grown_set _ _ _ _) (fun _ e => .inl e)
theorem cells4 {w : World} {B : Nat} {x0 x1 x2 x3 : Value} {t : TypeId} (h : w.heap[B]? = some (.cells #[x0, x1, x2, x3] t (0, 0))) :
    (w.cell? ⟨B, 0, none⟩ = some x0 ∧ w.cell? ⟨B, 1, none⟩ = some x1 ∧ w.cell? ⟨B, 2, none⟩ = some x2 ∧ w.cell? ⟨B, 3, none⟩ = some x3) ∧ (w.frozen? ⟨B, 0, none⟩ = false ∧ w.frozen? ⟨B, 1, none⟩ = false ∧ w.frozen? ⟨B, 2, none⟩ = false ∧ w.frozen? ⟨B, 3, none⟩ = false) := by
  refine ⟨⟨?_, ?_, ?_, ?_⟩, ⟨?_, ?_, ?_, ?_⟩⟩ <;> simp [World.cell?, World.frozen?, h]
theorem set4 {w : World} {B : Nat} {x0 x1 x2 x3 : Value} {t : TypeId} (h : w.heap[B]? = some (.cells #[x0, x1, x2, x3] t (0, 0))) (y0 y1 y2 y3 : Value) :
    ((((w.setCell ⟨B, 0, none⟩ y0).setCell ⟨B, 1, none⟩ y1).setCell ⟨B, 2, none⟩ y2).setCell ⟨B, 3, none⟩ y3).heap[B]? = some (.cells #[y0, y1, y2, y3] t (0, 0)) := by
  rw [heap_set (heap_set (heap_set (heap_set h 0 y0) 1 y1) 2 y2) 3 y3]; rfl
theorem belset4 {N : Nat} {w0 w : World} {B : Nat} (h : Below N w0 w) (hB : N ≤ B) (y0 y1 y2 y3 : Value) : Below N w0 ((((w.setCell ⟨B, 0, none⟩ y0).setCell ⟨B, 1, none⟩ y1).setCell ⟨B, 2, none⟩ y2).setCell ⟨B, 3, none⟩ y3) :=
  bel_set (bel_set (bel_set (bel_set h hB _) hB _) hB _) hB _
theorem grownset4 (w : World) (B : Nat) (y0 y1 y2 y3 : Value) : w.grownBy ((((w.setCell ⟨B, 0, none⟩ y0).setCell ⟨B, 1, none⟩ y1).setCell ⟨B, 2, none⟩ y2).setCell ⟨B, 3, none⟩ y3) (some B) :=
  grown_trans (grown_trans (grown_trans (grown_set _ _ _ _) (grown_set _ _ _ _) (fun _ e => .inl e)) (grown_set _ _ _ _) (fun _ e => .inl e)) (grown_set _ _ _ _) (fun _ e => .inl e)
theorem cells6 {w : World} {B : Nat} {x0 x1 x2 x3 x4 x5 : Value} {t : TypeId} (h : w.heap[B]? = some (.cells #[x0, x1, x2, x3, x4, x5] t (0, 0))) :
    (w.cell? ⟨B, 0, none⟩ = some x0 ∧ w.cell? ⟨B, 1, none⟩ = some x1 ∧ w.cell? ⟨B, 2, none⟩ = some x2 ∧ w.cell? ⟨B, 3, none⟩ = some x3 ∧ w.cell? ⟨B, 4, none⟩ = some x4 ∧ w.cell? ⟨B, 5, none⟩ = some x5) ∧ (w.frozen? ⟨B, 0, none⟩ = false ∧ w.frozen? ⟨B, 1, none⟩ = false ∧ w.frozen? ⟨B, 2, none⟩ = false ∧ w.frozen? ⟨B, 3, none⟩ = false ∧ w.frozen? ⟨B, 4, none⟩ = false ∧ w.frozen? ⟨B, 5, none⟩ = false) := by
  refine ⟨⟨?_, ?_, ?_, ?_, ?_, ?_⟩, ⟨?_, ?_, ?_, ?_, ?_, ?_⟩⟩ <;> simp [World.cell?, World.frozen?, h]
theorem set6 {w : World} {B : Nat} {x0 x1 x2 x3 x4 x5 : Value} {t : TypeId} (h : w.heap[B]? = some (.cells #[x0, x1, x2, x3, x4, x5] t (0, 0))) (y0 y1 y2 y3 y4 y5 : Value) :
    ((((((w.setCell ⟨B, 0, none⟩ y0).setCell ⟨B, 1, none⟩ y1).setCell ⟨B, 2, none⟩ y2).setCell ⟨B, 3, none⟩ y3).setCell ⟨B, 4, none⟩ y4).setCell ⟨B, 5, none⟩ y5).heap[B]? = some (.cells #[y0, y1, y2, y3, y4, y5] t (0, 0)) := by
  rw [heap_set (heap_set (heap_set (heap_set (heap_set (heap_set h 0 y0) 1 y1) 2 y2) 3 y3) 4 y4) 5 y5]; rfl
theorem belset6 {N : Nat} {w0 w : World} {B : Nat} (h : Below N w0 w) (hB : N ≤ B) (y0 y1 y2 y3 y4 y5 : Value) : Below N w0 ((((((w.setCell ⟨B, 0, none⟩ y0).setCell ⟨B, 1, none⟩ y1).setCell ⟨B, 2, none⟩ y2).setCell ⟨B, 3, none⟩ y3).setCell ⟨B, 4, none⟩ y4).setCell ⟨B, 5, none⟩ y5) :=
  bel_set (bel_set (bel_set (bel_set (bel_set (bel_set h hB _) hB _) hB _) hB _) hB _) hB _
theorem grownset6 (w : World) (B : Nat) (y0 y1 y2 y3 y4 y5 : Value) : w.grownBy ((((((w.setCell ⟨B, 0, none⟩ y0).setCell ⟨B, 1, none⟩ y1).setCell ⟨B, 2, none⟩ y2).setCell ⟨B, 3, none⟩ y3).setCell ⟨B, 4, none⟩ y4).setCell ⟨B, 5, none⟩ y5) (some B) :=
  grown_trans (grown_trans (grown_trans (grown_trans (grown_trans (grown_set _ _ _ _) (grown_set _ _ _ _) (fun _ e => .inl e)) (grown_set _ _ _ _) (fun _ e => .inl e)) (grown_set _ _ _ _) (fun _ e => .inl e)) (grown_set _ _ _ _) (fun _ e => .inl e)) (grown_set _ _ _ _) (fun _ e => .inl e)
theorem results_45 {fn : Func} {t u : Tmp} (h : fn.results = #[.cell t 45, .tmp u]) (tmps : Array Value) (w : World) (B : Nat) {x0 x1 x2 : Value} (ht : tmps.getD t undef = .pointer (some ⟨B, 0, none⟩)) (hb : w.heap[B]? = some (.cells #[x0, x1, x2] 45 (0, 0))) :
    (results fn tmps).run Try.prog w = .ok (.tuple #[.agg #[x0, x1, x2], tmps.getD u undef]) w := by
  obtain ⟨⟨c0, c1, c2⟩, -⟩ := cells3 hb
  have ht' : tmps[t]?.getD undef = .pointer (some ⟨B, 0, none⟩) := by rw [← Array.getD_eq_getD_getElem?]; exact ht
  simp [results, h, ht', asAddr, loadVar, c0, c1, c2, go_sem]
theorem results_57 {fn : Func} {t u : Tmp} (h : fn.results = #[.cell t 57, .tmp u]) (tmps : Array Value) (w : World) (B : Nat) {x0 x1 x2 : Value} (ht : tmps.getD t undef = .pointer (some ⟨B, 0, none⟩)) (hb : w.heap[B]? = some (.cells #[x0, x1, x2] 57 (0, 0))) :
    (results fn tmps).run Try.prog w = .ok (.tuple #[.agg #[x0, x1, x2], tmps.getD u undef]) w := by
  obtain ⟨⟨c0, c1, c2⟩, -⟩ := cells3 hb
  have ht' : tmps[t]?.getD undef = .pointer (some ⟨B, 0, none⟩) := by rw [← Array.getD_eq_getD_getElem?]; exact ht
  simp [results, h, ht', asAddr, loadVar, c0, c1, c2, go_sem]
theorem results_24 {fn : Func} {t u : Tmp} (h : fn.results = #[.cell t 24, .tmp u]) (tmps : Array Value) (w : World) (B : Nat) {x0 x1 x2 x3 : Value} (ht : tmps.getD t undef = .pointer (some ⟨B, 0, none⟩)) (hb : w.heap[B]? = some (.cells #[x0, x1, x2, x3] 24 (0, 0))) :
    (results fn tmps).run Try.prog w = .ok (.tuple #[.agg #[x0, x1, x2, x3], tmps.getD u undef]) w := by
  obtain ⟨⟨c0, c1, c2, c3⟩, -⟩ := cells4 hb
  have ht' : tmps[t]?.getD undef = .pointer (some ⟨B, 0, none⟩) := by rw [← Array.getD_eq_getD_getElem?]; exact ht
  simp [results, h, ht', asAddr, loadVar, c0, c1, c2, c3, go_sem]
theorem results_82 {fn : Func} {t u : Tmp} (h : fn.results = #[.cell t 82, .tmp u]) (tmps : Array Value) (w : World) (B : Nat) {x0 x1 : Value} (ht : tmps.getD t undef = .pointer (some ⟨B, 0, none⟩)) (hb : w.heap[B]? = some (.cells #[x0, x1] 82 (0, 0))) :
    (results fn tmps).run Try.prog w = .ok (.tuple #[.agg #[x0, x1], tmps.getD u undef]) w := by
  obtain ⟨⟨c0, c1⟩, -⟩ := cells2 hb
  have ht' : tmps[t]?.getD undef = .pointer (some ⟨B, 0, none⟩) := by rw [← Array.getD_eq_getD_getElem?]; exact ht
  simp [results, h, ht', asAddr, loadVar, c0, c1, go_sem]
theorem results_70 {fn : Func} {t u : Tmp} (h : fn.results = #[.cell t 70, .tmp u]) (tmps : Array Value) (w : World) (B : Nat) {x0 x1 x2 x3 x4 x5 : Value} (ht : tmps.getD t undef = .pointer (some ⟨B, 0, none⟩)) (hb : w.heap[B]? = some (.cells #[x0, x1, x2, x3, x4, x5] 70 (0, 0))) :
    (results fn tmps).run Try.prog w = .ok (.tuple #[.agg #[x0, x1, x2, x3, x4, x5], tmps.getD u undef]) w := by
  obtain ⟨⟨c0, c1, c2, c3, c4, c5⟩, -⟩ := cells6 hb
  have ht' : tmps[t]?.getD undef = .pointer (some ⟨B, 0, none⟩) := by rw [← Array.getD_eq_getD_getElem?]; exact ht
  simp [results, h, ht', asAddr, loadVar, c0, c1, c2, c3, c4, c5, go_sem]

set_option maxRecDepth 100000 in
set_option maxHeartbeats 2000000 in
theorem wholeState_any {w0 : World} (t v c : Int) (R : Nat) (l : List UInt8) (p e : Nat) (w : World) (h : Rr w0 w R l p e) (E : Nat) (hE : E = if doneE l p e = 0 then ckState t v c else doneE l p e) :
    Calls Try.prog 71 #[.pointer (some ⟨R, 0, none⟩), .iface 46 (.agg #[]), .agg #[.int .i64 t, .int .i64 v, .int .i64 c]] w fun r w' =>
      r = .returned (.tuple #[if E = 0 then .agg #[.int .i64 t, .int .i64 v, .int .i64 c] else .agg #[.int .i64 0, .int .i64 0, .int .i64 0], .int .i64 (E : Int)]) ∧ Below w.heap.size w w' := by
  obtain ⟨W0, hW0⟩ : ∃ W0, (w.alloc (.cells #[.int .i64 t, .int .i64 v, .int .i64 c] 45)).alloc (.cells #[.int .i64 0, .int .i64 0, .int .i64 0] 45) = W0 := ⟨_, rfl⟩
  have HW0 : Hid ((w.alloc (.cells #[.int .i64 t, .int .i64 v, .int .i64 c] 45)).alloc (.cells #[.int .i64 0, .int .i64 0, .int .i64 0] 45) = W0) := hW0
  have HB0 : Hid (Below w.heap.size w W0) := by show Below w.heap.size w W0; rw [← hW0]; exact (((Below.refl _ w).alloc (by simp) _).alloc (by simp) _)
  have HS : Hid (W0.heap.size = w.heap.size + 2) := by show W0.heap.size = _; rw [← hW0]; simp
  have HX : Hid (W0.heap[w.heap.size]? = some (.cells #[.int .i64 t, .int .i64 v, .int .i64 c] 45 (0, 0))) := by
    show W0.heap[w.heap.size]? = _
    rw [← hW0]; exact (((Below.refl (w.heap.size + 1) (w.alloc _)).alloc (by simp) _).block _ (by simp)).trans (World.alloc_heap_new w _)
  have HR : Hid (W0.heap[w.heap.size + 1]? = some (.cells #[.int .i64 0, .int .i64 0, .int .i64 0] 45 (0, 0))) := by
    show W0.heap[w.heap.size + 1]? = _
    rw [← hW0]; simpa using World.alloc_heap_new (w.alloc (.cells #[.int .i64 t, .int .i64 v, .int .i64 c] 45)) _
  have h0 : Rr w0 W0 R l p e := h.mono HB0.out
  have ck1 := fun w' => ckState_any t v c w'
  clear hW0
  by_cases he : doneE l p e = 0
  · rw [if_pos he] at hE
    go_enter Try.func71, Try.ntmps71
    go_wp2_with fail
    rw [HW0.out]
    refine (rrDone_any h0).mono ?_
    rintro r w1 ⟨rfl, hB1⟩
    rw [he]
    obtain ⟨⟨q0, q1, q2⟩, -⟩ := cells3 ((hB1.block w.heap.size (by have := HS.out; omega)).trans HX.out)
    rw [← hE] at ck1
    go_wp2_with fail
    refine (ck1 w1).mono ?_
    rintro r w2 ⟨rfl, hB2⟩
    have hB2' : Below W0.heap.size W0 w2 := hB1.trans (hB2.mono hB1.size)
    by_cases hEn : E = 0
    · clear hE
      subst hEn
      have hr2 := (hB2'.block (w.heap.size + 1) (by have := HS.out; omega)).trans HR.out
      obtain ⟨⟨q0, q1, q2⟩, -⟩ := cells3 ((hB2'.block w.heap.size (by have := HS.out; omega)).trans HX.out)
      obtain ⟨⟨r0, r1, r2⟩, f0, f1, f2⟩ := cells3 hr2
      have HF : Hid (Below w.heap.size w w2) := HB0.out.trans (hB2'.mono HB0.out.size)
      have HR2 : Hid (w2.heap[w.heap.size + 1]? = some (.cells #[.int .i64 0, .int .i64 0, .int .i64 0] 45 (0, 0))) := hr2
      clear hr2 hB2 hB2' hB1 h0 h ck1
      go_wp2
      refine bodyPost_ret (results_45 rfl _ _ (w.heap.size + 1) rfl (set3 HR2.out _ _ _)) rfl ?_
      exact ⟨by simp, belset3 HF.out (by omega) _ _ _⟩
    · have hke : ((E : Int) != 0) = true := by simp; omega
      clear hE ck1 h0 h
      have hra : ((w2).alloc (.cells #[.int .i64 0, .int .i64 0, .int .i64 0] 45)).heap[w.heap.size + 1]? = some (.cells #[.int .i64 0, .int .i64 0, .int .i64 0] 45 (0, 0)) :=
        ((((Below.refl W0.heap.size W0).trans hB2').alloc (by have := hB2'.size; omega) _).block (w.heap.size + 1) (by have := HS.out; omega)).trans HR.out
      obtain ⟨⟨r0, r1, r2⟩, f0, f1, f2⟩ := cells3 hra
      have HF : Hid (Below w.heap.size w ((w2).alloc (.cells #[.int .i64 0, .int .i64 0, .int .i64 0] 45))) := (HB0.out.trans (hB2'.mono HB0.out.size)).alloc (by have := HB0.out.size; have := hB2'.size; omega) _
      have HR2 : Hid (((w2).alloc (.cells #[.int .i64 0, .int .i64 0, .int .i64 0] 45)).heap[w.heap.size + 1]? = some (.cells #[.int .i64 0, .int .i64 0, .int .i64 0] 45 (0, 0))) := hra
      clear hra
      go_wp2
      refine bodyPost_ret (results_45 rfl _ _ (w.heap.size + 1) rfl (set3 HR2.out _ _ _)) rfl ?_
      exact ⟨by simp, belset3 HF.out (by omega) _ _ _⟩
  · rw [if_neg he] at hE
    have hEn : ¬ E = 0 := by omega
    have hke : ((E : Int) == 0) = false := by simp; omega
    have hke2 : ((E : Int) != 0) = true := by simp; omega
    go_enter Try.func71, Try.ntmps71
    go_wp2_with fail
    rw [HW0.out]
    refine (rrDone_any h0).mono ?_
    rintro r w1 ⟨rfl, hB1⟩
    rw [← hE]
    clear hE ck1 h0 h
    have hra : ((w1).alloc (.cells #[.int .i64 0, .int .i64 0, .int .i64 0] 45)).heap[w.heap.size + 1]? = some (.cells #[.int .i64 0, .int .i64 0, .int .i64 0] 45 (0, 0)) :=
      ((((Below.refl W0.heap.size W0).trans hB1).alloc (by have := hB1.size; omega) _).block (w.heap.size + 1) (by have := HS.out; omega)).trans HR.out
    obtain ⟨⟨r0, r1, r2⟩, f0, f1, f2⟩ := cells3 hra
    have HF : Hid (Below w.heap.size w ((w1).alloc (.cells #[.int .i64 0, .int .i64 0, .int .i64 0] 45))) := (HB0.out.trans (hB1.mono HB0.out.size)).alloc (by have := HB0.out.size; have := hB1.size; omega) _
    have HR2 : Hid (((w1).alloc (.cells #[.int .i64 0, .int .i64 0, .int .i64 0] 45)).heap[w.heap.size + 1]? = some (.cells #[.int .i64 0, .int .i64 0, .int .i64 0] 45 (0, 0))) := hra
    clear hra
    go_wp2
    refine bodyPost_ret (results_45 rfl _ _ (w.heap.size + 1) rfl (set3 HR2.out _ _ _)) rfl ?_
    exact ⟨by simp, belset3 HF.out (by omega) _ _ _⟩

set_option maxRecDepth 100000 in
set_option maxHeartbeats 2000000 in
theorem wholeReply_any {w0 : World} (c : Int) (m : List UInt8) (R : Nat) (l : List UInt8) (p e : Nat) (w : World) (h : Rr w0 w R l p e) (E : Nat) (hE : E = if doneE l p e = 0 then ckReply c m.length else doneE l p e) :
    Calls Try.prog 80 #[.pointer (some ⟨R, 0, none⟩), .iface 83 (.agg #[]), .agg #[.int .i64 c, .string ⟨m.toArray⟩]] w fun r w' =>
      r = .returned (.tuple #[if E = 0 then .agg #[.int .i64 c, .string ⟨m.toArray⟩] else .agg #[.int .i64 0, .string ⟨#[]⟩], .int .i64 (E : Int)]) ∧ Below w.heap.size w w' := by
  obtain ⟨W0, hW0⟩ : ∃ W0, (w.alloc (.cells #[.int .i64 c, .string ⟨m.toArray⟩] 82)).alloc (.cells #[.int .i64 0, .string ⟨#[]⟩] 82) = W0 := ⟨_, rfl⟩
  have HW0 : Hid ((w.alloc (.cells #[.int .i64 c, .string ⟨m.toArray⟩] 82)).alloc (.cells #[.int .i64 0, .string ⟨#[]⟩] 82) = W0) := hW0
  have HB0 : Hid (Below w.heap.size w W0) := by show Below w.heap.size w W0; rw [← hW0]; exact (((Below.refl _ w).alloc (by simp) _).alloc (by simp) _)
  have HS : Hid (W0.heap.size = w.heap.size + 2) := by show W0.heap.size = _; rw [← hW0]; simp
  have HX : Hid (W0.heap[w.heap.size]? = some (.cells #[.int .i64 c, .string ⟨m.toArray⟩] 82 (0, 0))) := by
    show W0.heap[w.heap.size]? = _
    rw [← hW0]; exact (((Below.refl (w.heap.size + 1) (w.alloc _)).alloc (by simp) _).block _ (by simp)).trans (World.alloc_heap_new w _)
  have HR : Hid (W0.heap[w.heap.size + 1]? = some (.cells #[.int .i64 0, .string ⟨#[]⟩] 82 (0, 0))) := by
    show W0.heap[w.heap.size + 1]? = _
    rw [← hW0]; simpa using World.alloc_heap_new (w.alloc (.cells #[.int .i64 c, .string ⟨m.toArray⟩] 82)) _
  have h0 : Rr w0 W0 R l p e := h.mono HB0.out
  have ck1 := fun w' => ckReply_any c m w'
  clear hW0
  by_cases he : doneE l p e = 0
  · rw [if_pos he] at hE
    go_enter Try.func80, Try.ntmps80
    go_wp2_with fail
    rw [HW0.out]
    refine (rrDone_any h0).mono ?_
    rintro r w1 ⟨rfl, hB1⟩
    rw [he]
    obtain ⟨⟨q0, q1⟩, -⟩ := cells2 ((hB1.block w.heap.size (by have := HS.out; omega)).trans HX.out)
    rw [← hE] at ck1
    go_wp2_with fail
    refine (ck1 w1).mono ?_
    rintro r w2 ⟨rfl, hB2⟩
    have hB2' : Below W0.heap.size W0 w2 := hB1.trans (hB2.mono hB1.size)
    by_cases hEn : E = 0
    · clear hE
      subst hEn
      have hr2 := (hB2'.block (w.heap.size + 1) (by have := HS.out; omega)).trans HR.out
      obtain ⟨⟨q0, q1⟩, -⟩ := cells2 ((hB2'.block w.heap.size (by have := HS.out; omega)).trans HX.out)
      obtain ⟨⟨r0, r1⟩, f0, f1⟩ := cells2 hr2
      have HF : Hid (Below w.heap.size w w2) := HB0.out.trans (hB2'.mono HB0.out.size)
      have HR2 : Hid (w2.heap[w.heap.size + 1]? = some (.cells #[.int .i64 0, .string ⟨#[]⟩] 82 (0, 0))) := hr2
      clear hr2 hB2 hB2' hB1 h0 h ck1
      go_wp2
      refine bodyPost_ret (results_82 rfl _ _ (w.heap.size + 1) rfl (set2 HR2.out _ _)) rfl ?_
      exact ⟨by simp, belset2 HF.out (by omega) _ _⟩
    · have hke : ((E : Int) != 0) = true := by simp; omega
      clear hE ck1 h0 h
      have hra : ((w2).alloc (.cells #[.int .i64 0, .string ⟨#[]⟩] 82)).heap[w.heap.size + 1]? = some (.cells #[.int .i64 0, .string ⟨#[]⟩] 82 (0, 0)) :=
        ((((Below.refl W0.heap.size W0).trans hB2').alloc (by have := hB2'.size; omega) _).block (w.heap.size + 1) (by have := HS.out; omega)).trans HR.out
      obtain ⟨⟨r0, r1⟩, f0, f1⟩ := cells2 hra
      have HF : Hid (Below w.heap.size w ((w2).alloc (.cells #[.int .i64 0, .string ⟨#[]⟩] 82))) := (HB0.out.trans (hB2'.mono HB0.out.size)).alloc (by have := HB0.out.size; have := hB2'.size; omega) _
      have HR2 : Hid (((w2).alloc (.cells #[.int .i64 0, .string ⟨#[]⟩] 82)).heap[w.heap.size + 1]? = some (.cells #[.int .i64 0, .string ⟨#[]⟩] 82 (0, 0))) := hra
      clear hra
      go_wp2
      refine bodyPost_ret (results_82 rfl _ _ (w.heap.size + 1) rfl (set2 HR2.out _ _)) rfl ?_
      exact ⟨by simp, belset2 HF.out (by omega) _ _⟩
  · rw [if_neg he] at hE
    have hEn : ¬ E = 0 := by omega
    have hke : ((E : Int) == 0) = false := by simp; omega
    have hke2 : ((E : Int) != 0) = true := by simp; omega
    go_enter Try.func80, Try.ntmps80
    go_wp2_with fail
    rw [HW0.out]
    refine (rrDone_any h0).mono ?_
    rintro r w1 ⟨rfl, hB1⟩
    rw [← hE]
    clear hE ck1 h0 h
    have hra : ((w1).alloc (.cells #[.int .i64 0, .string ⟨#[]⟩] 82)).heap[w.heap.size + 1]? = some (.cells #[.int .i64 0, .string ⟨#[]⟩] 82 (0, 0)) :=
      ((((Below.refl W0.heap.size W0).trans hB1).alloc (by have := hB1.size; omega) _).block (w.heap.size + 1) (by have := HS.out; omega)).trans HR.out
    obtain ⟨⟨r0, r1⟩, f0, f1⟩ := cells2 hra
    have HF : Hid (Below w.heap.size w ((w1).alloc (.cells #[.int .i64 0, .string ⟨#[]⟩] 82))) := (HB0.out.trans (hB1.mono HB0.out.size)).alloc (by have := HB0.out.size; have := hB1.size; omega) _
    have HR2 : Hid (((w1).alloc (.cells #[.int .i64 0, .string ⟨#[]⟩] 82)).heap[w.heap.size + 1]? = some (.cells #[.int .i64 0, .string ⟨#[]⟩] 82 (0, 0))) := hra
    clear hra
    go_wp2
    refine bodyPost_ret (results_82 rfl _ _ (w.heap.size + 1) rfl (set2 HR2.out _ _)) rfl ?_
    exact ⟨by simp, belset2 HF.out (by omega) _ _⟩

set_option maxRecDepth 100000 in
set_option maxHeartbeats 2000000 in
theorem wholeSnap_any {w0 : World} (i t : Int) (m : List UInt8) (a : Option Addr) (cap : Nat) (R : Nat) (l : List UInt8) (p e : Nat) (w : World) (h : Rr w0 w R l p e) (E : Nat) (hE : E = if doneE l p e = 0 then ckSnap i t m.length else doneE l p e) :
    Calls Try.prog 74 #[.pointer (some ⟨R, 0, none⟩), .iface 58 (.agg #[]), .agg #[.int .i64 i, .int .i64 t, .slice a m.length cap]] w fun r w' =>
      r = .returned (.tuple #[if E = 0 then .agg #[.int .i64 i, .int .i64 t, .slice a m.length cap] else .agg #[.int .i64 0, .int .i64 0, .slice none 0 0], .int .i64 (E : Int)]) ∧ Below w.heap.size w w' := by
  obtain ⟨W0, hW0⟩ : ∃ W0, (w.alloc (.cells #[.int .i64 i, .int .i64 t, .slice a m.length cap] 57)).alloc (.cells #[.int .i64 0, .int .i64 0, .slice none 0 0] 57) = W0 := ⟨_, rfl⟩
  have HW0 : Hid ((w.alloc (.cells #[.int .i64 i, .int .i64 t, .slice a m.length cap] 57)).alloc (.cells #[.int .i64 0, .int .i64 0, .slice none 0 0] 57) = W0) := hW0
  have HB0 : Hid (Below w.heap.size w W0) := by show Below w.heap.size w W0; rw [← hW0]; exact (((Below.refl _ w).alloc (by simp) _).alloc (by simp) _)
  have HS : Hid (W0.heap.size = w.heap.size + 2) := by show W0.heap.size = _; rw [← hW0]; simp
  have HX : Hid (W0.heap[w.heap.size]? = some (.cells #[.int .i64 i, .int .i64 t, .slice a m.length cap] 57 (0, 0))) := by
    show W0.heap[w.heap.size]? = _
    rw [← hW0]; exact (((Below.refl (w.heap.size + 1) (w.alloc _)).alloc (by simp) _).block _ (by simp)).trans (World.alloc_heap_new w _)
  have HR : Hid (W0.heap[w.heap.size + 1]? = some (.cells #[.int .i64 0, .int .i64 0, .slice none 0 0] 57 (0, 0))) := by
    show W0.heap[w.heap.size + 1]? = _
    rw [← hW0]; simpa using World.alloc_heap_new (w.alloc (.cells #[.int .i64 i, .int .i64 t, .slice a m.length cap] 57)) _
  have h0 : Rr w0 W0 R l p e := h.mono HB0.out
  have ck1 := fun w' => ckSnap_any i t a m.length cap w'
  clear hW0
  by_cases he : doneE l p e = 0
  · rw [if_pos he] at hE
    go_enter Try.func74, Try.ntmps74
    go_wp2_with fail
    rw [HW0.out]
    refine (rrDone_any h0).mono ?_
    rintro r w1 ⟨rfl, hB1⟩
    rw [he]
    obtain ⟨⟨q0, q1, q2⟩, -⟩ := cells3 ((hB1.block w.heap.size (by have := HS.out; omega)).trans HX.out)
    rw [← hE] at ck1
    go_wp2_with fail
    refine (ck1 w1).mono ?_
    rintro r w2 ⟨rfl, hB2⟩
    have hB2' : Below W0.heap.size W0 w2 := hB1.trans (hB2.mono hB1.size)
    by_cases hEn : E = 0
    · clear hE
      subst hEn
      have hr2 := (hB2'.block (w.heap.size + 1) (by have := HS.out; omega)).trans HR.out
      obtain ⟨⟨q0, q1, q2⟩, -⟩ := cells3 ((hB2'.block w.heap.size (by have := HS.out; omega)).trans HX.out)
      obtain ⟨⟨r0, r1, r2⟩, f0, f1, f2⟩ := cells3 hr2
      have HF : Hid (Below w.heap.size w w2) := HB0.out.trans (hB2'.mono HB0.out.size)
      have HR2 : Hid (w2.heap[w.heap.size + 1]? = some (.cells #[.int .i64 0, .int .i64 0, .slice none 0 0] 57 (0, 0))) := hr2
      clear hr2 hB2 hB2' hB1 h0 h ck1
      go_wp2
      refine bodyPost_ret (results_57 rfl _ _ (w.heap.size + 1) rfl (set3 HR2.out _ _ _)) rfl ?_
      exact ⟨by simp, belset3 HF.out (by omega) _ _ _⟩
    · have hke : ((E : Int) != 0) = true := by simp; omega
      clear hE ck1 h0 h
      have hra : ((w2).alloc (.cells #[.int .i64 0, .int .i64 0, .slice none 0 0] 57)).heap[w.heap.size + 1]? = some (.cells #[.int .i64 0, .int .i64 0, .slice none 0 0] 57 (0, 0)) :=
        ((((Below.refl W0.heap.size W0).trans hB2').alloc (by have := hB2'.size; omega) _).block (w.heap.size + 1) (by have := HS.out; omega)).trans HR.out
      obtain ⟨⟨r0, r1, r2⟩, f0, f1, f2⟩ := cells3 hra
      have HF : Hid (Below w.heap.size w ((w2).alloc (.cells #[.int .i64 0, .int .i64 0, .slice none 0 0] 57))) := (HB0.out.trans (hB2'.mono HB0.out.size)).alloc (by have := HB0.out.size; have := hB2'.size; omega) _
      have HR2 : Hid (((w2).alloc (.cells #[.int .i64 0, .int .i64 0, .slice none 0 0] 57)).heap[w.heap.size + 1]? = some (.cells #[.int .i64 0, .int .i64 0, .slice none 0 0] 57 (0, 0))) := hra
      clear hra
      go_wp2
      refine bodyPost_ret (results_57 rfl _ _ (w.heap.size + 1) rfl (set3 HR2.out _ _ _)) rfl ?_
      exact ⟨by simp, belset3 HF.out (by omega) _ _ _⟩
  · rw [if_neg he] at hE
    have hEn : ¬ E = 0 := by omega
    have hke : ((E : Int) == 0) = false := by simp; omega
    have hke2 : ((E : Int) != 0) = true := by simp; omega
    go_enter Try.func74, Try.ntmps74
    go_wp2_with fail
    rw [HW0.out]
    refine (rrDone_any h0).mono ?_
    rintro r w1 ⟨rfl, hB1⟩
    rw [← hE]
    clear hE ck1 h0 h
    have hra : ((w1).alloc (.cells #[.int .i64 0, .int .i64 0, .slice none 0 0] 57)).heap[w.heap.size + 1]? = some (.cells #[.int .i64 0, .int .i64 0, .slice none 0 0] 57 (0, 0)) :=
      ((((Below.refl W0.heap.size W0).trans hB1).alloc (by have := hB1.size; omega) _).block (w.heap.size + 1) (by have := HS.out; omega)).trans HR.out
    obtain ⟨⟨r0, r1, r2⟩, f0, f1, f2⟩ := cells3 hra
    have HF : Hid (Below w.heap.size w ((w1).alloc (.cells #[.int .i64 0, .int .i64 0, .slice none 0 0] 57))) := (HB0.out.trans (hB1.mono HB0.out.size)).alloc (by have := HB0.out.size; have := hB1.size; omega) _
    have HR2 : Hid (((w1).alloc (.cells #[.int .i64 0, .int .i64 0, .slice none 0 0] 57)).heap[w.heap.size + 1]? = some (.cells #[.int .i64 0, .int .i64 0, .slice none 0 0] 57 (0, 0))) := hra
    clear hra
    go_wp2
    refine bodyPost_ret (results_57 rfl _ _ (w.heap.size + 1) rfl (set3 HR2.out _ _ _)) rfl ?_
    exact ⟨by simp, belset3 HF.out (by omega) _ _ _⟩

set_option maxRecDepth 100000 in
set_option maxHeartbeats 2000000 in
theorem wholeEntry_any {w0 : World} (t i k : Int) (m : List UInt8) (a : Option Addr) (cap : Nat) (R : Nat) (l : List UInt8) (p e : Nat) (w : World) (h : Rr w0 w R l p e) (E : Nat) (hE : E = if doneE l p e = 0 then ckEntry t i k m.length else doneE l p e) :
    Calls Try.prog 65 #[.pointer (some ⟨R, 0, none⟩), .iface 27 (.agg #[]), .agg #[.int .i64 t, .int .i64 i, .int .i64 k, .slice a m.length cap]] w fun r w' =>
      r = .returned (.tuple #[if E = 0 then .agg #[.int .i64 t, .int .i64 i, .int .i64 k, .slice a m.length cap] else .agg #[.int .i64 0, .int .i64 0, .int .i64 0, .slice none 0 0], .int .i64 (E : Int)]) ∧ Below w.heap.size w w' := by
  obtain ⟨W0, hW0⟩ : ∃ W0, (w.alloc (.cells #[.int .i64 t, .int .i64 i, .int .i64 k, .slice a m.length cap] 24)).alloc (.cells #[.int .i64 0, .int .i64 0, .int .i64 0, .slice none 0 0] 24) = W0 := ⟨_, rfl⟩
  have HW0 : Hid ((w.alloc (.cells #[.int .i64 t, .int .i64 i, .int .i64 k, .slice a m.length cap] 24)).alloc (.cells #[.int .i64 0, .int .i64 0, .int .i64 0, .slice none 0 0] 24) = W0) := hW0
  have HB0 : Hid (Below w.heap.size w W0) := by show Below w.heap.size w W0; rw [← hW0]; exact (((Below.refl _ w).alloc (by simp) _).alloc (by simp) _)
  have HS : Hid (W0.heap.size = w.heap.size + 2) := by show W0.heap.size = _; rw [← hW0]; simp
  have HX : Hid (W0.heap[w.heap.size]? = some (.cells #[.int .i64 t, .int .i64 i, .int .i64 k, .slice a m.length cap] 24 (0, 0))) := by
    show W0.heap[w.heap.size]? = _
    rw [← hW0]; exact (((Below.refl (w.heap.size + 1) (w.alloc _)).alloc (by simp) _).block _ (by simp)).trans (World.alloc_heap_new w _)
  have HR : Hid (W0.heap[w.heap.size + 1]? = some (.cells #[.int .i64 0, .int .i64 0, .int .i64 0, .slice none 0 0] 24 (0, 0))) := by
    show W0.heap[w.heap.size + 1]? = _
    rw [← hW0]; simpa using World.alloc_heap_new (w.alloc (.cells #[.int .i64 t, .int .i64 i, .int .i64 k, .slice a m.length cap] 24)) _
  have h0 : Rr w0 W0 R l p e := h.mono HB0.out
  have ck1 := fun w' => ckEntry_any t i k a m.length cap w'
  clear hW0
  by_cases he : doneE l p e = 0
  · rw [if_pos he] at hE
    go_enter Try.func65, Try.ntmps65
    go_wp2_with fail
    rw [HW0.out]
    refine (rrDone_any h0).mono ?_
    rintro r w1 ⟨rfl, hB1⟩
    rw [he]
    obtain ⟨⟨q0, q1, q2, q3⟩, -⟩ := cells4 ((hB1.block w.heap.size (by have := HS.out; omega)).trans HX.out)
    rw [← hE] at ck1
    go_wp2_with fail
    refine (ck1 w1).mono ?_
    rintro r w2 ⟨rfl, hB2⟩
    have hB2' : Below W0.heap.size W0 w2 := hB1.trans (hB2.mono hB1.size)
    by_cases hEn : E = 0
    · clear hE
      subst hEn
      have hr2 := (hB2'.block (w.heap.size + 1) (by have := HS.out; omega)).trans HR.out
      obtain ⟨⟨q0, q1, q2, q3⟩, -⟩ := cells4 ((hB2'.block w.heap.size (by have := HS.out; omega)).trans HX.out)
      obtain ⟨⟨r0, r1, r2, r3⟩, f0, f1, f2, f3⟩ := cells4 hr2
      have HF : Hid (Below w.heap.size w w2) := HB0.out.trans (hB2'.mono HB0.out.size)
      have HR2 : Hid (w2.heap[w.heap.size + 1]? = some (.cells #[.int .i64 0, .int .i64 0, .int .i64 0, .slice none 0 0] 24 (0, 0))) := hr2
      clear hr2 hB2 hB2' hB1 h0 h ck1
      go_wp2
      refine bodyPost_ret (results_24 rfl _ _ (w.heap.size + 1) rfl (set4 HR2.out _ _ _ _)) rfl ?_
      exact ⟨by simp, belset4 HF.out (by omega) _ _ _ _⟩
    · have hke : ((E : Int) != 0) = true := by simp; omega
      clear hE ck1 h0 h
      have hra : ((w2).alloc (.cells #[.int .i64 0, .int .i64 0, .int .i64 0, .slice none 0 0] 24)).heap[w.heap.size + 1]? = some (.cells #[.int .i64 0, .int .i64 0, .int .i64 0, .slice none 0 0] 24 (0, 0)) :=
        ((((Below.refl W0.heap.size W0).trans hB2').alloc (by have := hB2'.size; omega) _).block (w.heap.size + 1) (by have := HS.out; omega)).trans HR.out
      obtain ⟨⟨r0, r1, r2, r3⟩, f0, f1, f2, f3⟩ := cells4 hra
      have HF : Hid (Below w.heap.size w ((w2).alloc (.cells #[.int .i64 0, .int .i64 0, .int .i64 0, .slice none 0 0] 24))) := (HB0.out.trans (hB2'.mono HB0.out.size)).alloc (by have := HB0.out.size; have := hB2'.size; omega) _
      have HR2 : Hid (((w2).alloc (.cells #[.int .i64 0, .int .i64 0, .int .i64 0, .slice none 0 0] 24)).heap[w.heap.size + 1]? = some (.cells #[.int .i64 0, .int .i64 0, .int .i64 0, .slice none 0 0] 24 (0, 0))) := hra
      clear hra
      go_wp2
      refine bodyPost_ret (results_24 rfl _ _ (w.heap.size + 1) rfl (set4 HR2.out _ _ _ _)) rfl ?_
      exact ⟨by simp, belset4 HF.out (by omega) _ _ _ _⟩
  · rw [if_neg he] at hE
    have hEn : ¬ E = 0 := by omega
    have hke : ((E : Int) == 0) = false := by simp; omega
    have hke2 : ((E : Int) != 0) = true := by simp; omega
    go_enter Try.func65, Try.ntmps65
    go_wp2_with fail
    rw [HW0.out]
    refine (rrDone_any h0).mono ?_
    rintro r w1 ⟨rfl, hB1⟩
    rw [← hE]
    clear hE ck1 h0 h
    have hra : ((w1).alloc (.cells #[.int .i64 0, .int .i64 0, .int .i64 0, .slice none 0 0] 24)).heap[w.heap.size + 1]? = some (.cells #[.int .i64 0, .int .i64 0, .int .i64 0, .slice none 0 0] 24 (0, 0)) :=
      ((((Below.refl W0.heap.size W0).trans hB1).alloc (by have := hB1.size; omega) _).block (w.heap.size + 1) (by have := HS.out; omega)).trans HR.out
    obtain ⟨⟨r0, r1, r2, r3⟩, f0, f1, f2, f3⟩ := cells4 hra
    have HF : Hid (Below w.heap.size w ((w1).alloc (.cells #[.int .i64 0, .int .i64 0, .int .i64 0, .slice none 0 0] 24))) := (HB0.out.trans (hB1.mono HB0.out.size)).alloc (by have := HB0.out.size; have := hB1.size; omega) _
    have HR2 : Hid (((w1).alloc (.cells #[.int .i64 0, .int .i64 0, .int .i64 0, .slice none 0 0] 24)).heap[w.heap.size + 1]? = some (.cells #[.int .i64 0, .int .i64 0, .int .i64 0, .slice none 0 0] 24 (0, 0))) := hra
    clear hra
    go_wp2
    refine bodyPost_ret (results_24 rfl _ _ (w.heap.size + 1) rfl (set4 HR2.out _ _ _ _)) rfl ?_
    exact ⟨by simp, belset4 HF.out (by omega) _ _ _ _⟩

end Go.Proofs.Ytfnnbfgfmbiabaa

