/-
  First; Lent; Wtr; RowIn; Rrd; Wby; Puts; Told; Rwr.
-/
import Derived.Test.YtfnnbfgfmbiababJ04
import Derived.Test.YtfnnbfgfmbiababRows
import Derived.WalkKit
import Derived.ProofKit
import Derived.OpenShut
import Derived.ShutString
import Derived.ChangeOld
import Derived.Below
import Derived.Deep.RegionHeld3
import Derived.Laws.IdiomStrings
import Derived.Test.YtfnnbfgfmbiababJ02
/-
  The numbers of which the document fixes all: 'first' is true.
-/
namespace Go.Proofs.Ytfnnbfgfmbiabab
open Go.RowKit Go.Shelf

theorem Ow.below {N B : Nat} {w w' : World} {v : Value} {l : List UInt8} (h : Ow N w v l) (hB : Below B w w') (hs : w.heap.size ≤ B) : Ow N w' v l :=
  h.kept (row := none) ⟨hB.os, hB.tape, hB.output, hB.size, fun k hk _ => hB.block k (by omega)⟩ (by cases v.ownBlock <;> simp)

theorem Ow.alloc {N : Nat} {w : World} {v : Value} {l : List UInt8} (h : Ow N w v l) (o : Obj) : Ow N (w.alloc o) v l :=
  h.kept (World.grownBy_alloc w o none) (by cases v.ownBlock <;> simp)

/-- Bytes that are written out. -/
theorem sl_new (w : World) (l : List UInt8) (c : Array Value) (hl : 0 < l.length) (hm : l.length ≤ 1000) (hc : c.toList = l.map encB) : Sl (w.heap.size + 1) (w.alloc (.cells c 5)) (.slice (some ⟨w.heap.size, 0, none⟩) l.length l.length) l := by
  refine ⟨_, _, rfl, Nat.le_refl _, by unfold maxLen; omega, .inr ⟨_, _, rfl, by omega, fun i hi => ?_⟩⟩
  have h : (w.alloc (.cells c 5)).heap[w.heap.size]? = some (.cells c 5) := World.alloc_heap_new w _
  simp only [World.cell?, h, Nat.zero_add]
  have : c.toList[i]? = (l.map encB)[i]? := by rw [hc]
  rw [List.getElem?_map, List.getElem?_eq_getElem hi] at this
  simpa [hi] using this

theorem put300 : putB 300 = [172, 2] := by decide +kernel
theorem put300e : putE 300 = 0 := by decide +kernel
theorem putm1e : putE (-1) = 1 := by decide +kernel
theorem int300 : intAt [172, 2, 7] 0 = (300, 2, 0) := by decide +kernel
theorem pk5 : pk [5, 2, 97, 98, 1] 0 0 = (5, 1, 0) := by decide +kernel
theorem take5 : takeAt [5, 2, 97, 98, 1] 1 0 2 = ([97, 98], 4, 0) := by decide +kernel
theorem bool5 : boolAt [5, 2, 97, 98, 1] 4 0 = (true, 5, 0) := by decide +kernel
theorem done5 : doneE [5, 2, 97, 98, 1] 5 0 = 0 := by decide +kernel

end Go.Proofs.Ytfnnbfgfmbiabab

/-
  What is lent and kept: a copy with one more byte behind it; whether it is as it was.
-/
namespace Go.Proofs.Ytfnnbfgfmbiabab
open Go.RowKit Go.Shelf

/-- What was lent, as far as it reads. -/
theorem Ow.lent {N M : Nat} {w : World} {g cap : Nat} {l : List UInt8} (h : Ow N w (.slice (some ⟨g, 0, none⟩) (l.length + 1) cap) (l ++ [201])) (hM : w.heap.size ≤ M) : Sl M w (.slice (some ⟨g, 0, none⟩) l.length cap) l := by
  obtain ⟨a, c, e, h1, h2, h3⟩ := h.sl hM
  have hlen : (l ++ [(201 : UInt8)]).length = l.length + 1 := by simp
  rw [hlen] at e h1
  cases e
  refine ⟨_, _, rfl, by omega, h2, ?_⟩
  obtain ⟨b, off, e2, hb, hc⟩ := h3.resolve_left (by simp)
  refine .inr ⟨b, off, e2, hb, fun i hi => ?_⟩
  rw [hc i (by omega)]
  simp [List.getElem?_append, hi]

theorem Ow.mark {N : Nat} {w : World} {g cap : Nat} {l : List UInt8} (h : Ow N w (.slice (some ⟨g, 0, none⟩) (l.length + 1) cap) (l ++ [201])) : w.cell? ⟨g, l.length, none⟩ = some (.int .u8 201) ∧ l.length + 1 ≤ cap ∧ cap ≤ maxLen := by
  obtain ⟨a, c, e, h1, h2, h3⟩ := h.sl (Nat.le_refl _)
  have hlen : (l ++ [(201 : UInt8)]).length = l.length + 1 := by simp
  rw [hlen] at e h1
  cases e
  obtain ⟨b, off, e2, hb, hc⟩ := h3.resolve_left (by simp)
  cases e2
  refine ⟨?_, h1, h2⟩
  have := hc l.length (by omega)
  rw [Nat.zero_add] at this
  rw [this]
  simp [encB]

end Go.Proofs.Ytfnnbfgfmbiabab

/-
  A writer of wire, and the document's: what each call leaves.
-/
namespace Go.Proofs.Ytfnnbfgfmbiabab
open Go.RowKit Go.Shelf

/-- Block B holds a writer (of type t) that has put l (in v, memory of its own), with the error e. -/
structure Wtr (t : TypeId) (N : Nat) (W : World) (B : Nat) (v : Value) (l : List UInt8) (e : Nat) : Prop where
  le : N ≤ B
  at0 : W.heap[B]? = some (.cells #[v, .int .i64 (e : Int)] t (0, 0))
  ow : Ow N W v l

/-- Of what was there only block B and the bytes of v may have turned. -/
structure Tn (w w' : World) (B : Nat) (v : Value) : Prop where
  os : w'.os = w.os
  tape : w'.tape = w.tape
  output : w'.output = w.output
  size : w.heap.size ≤ w'.heap.size
  block : ∀ k, k < w.heap.size → k ≠ B → v.ownBlock ≠ some k → w'.heap[k]? = w.heap[k]?

/-- v' lies in no memory, in v's, or in new memory. -/
def Son (w : World) (v v' : Value) : Prop := v'.ownBlock = none ∨ v'.ownBlock = v.ownBlock ∨ ∃ k, v'.ownBlock = some k ∧ w.heap.size ≤ k

theorem Tn.refl (w : World) (B : Nat) (v : Value) : Tn w w B v := ⟨rfl, rfl, rfl, Nat.le_refl _, fun _ _ _ _ => rfl⟩
theorem Son.refl (w : World) (v : Value) : Son w v v := .inr (.inl rfl)

theorem Tn.of_grown {w w' : World} {B : Nat} {v : Value} {row : Option Nat} (h : w.grownBy w' row) (hr : ∀ k, row = some k → k = B ∨ v.ownBlock = some k) : Tn w w' B v :=
  ⟨h.os, h.tape, h.output, h.size, fun k hk hB hv => h.block k hk (fun e => by rcases hr k e.symm with h | h; exact hB h; exact hv h)⟩

theorem Tn.trans {w w1 w2 : World} {B : Nat} {v v1 : Value} (h : Tn w w1 B v) (hs : Son w v v1) (k : Tn w1 w2 B v1) : Tn w w2 B v :=
  ⟨k.os.trans h.os, k.tape.trans h.tape, k.output.trans h.output, Nat.le_trans h.size k.size, fun j hj hB hv => (k.block j (Nat.lt_of_lt_of_le hj h.size) hB (fun e => by
    rcases hs with hs | hs | ⟨i, hs, hi⟩
    · rw [hs] at e; cases e
    · exact hv (hs ▸ e)
    · rw [hs] at e; cases e; omega)).trans (h.block j hj hB hv)⟩

theorem Son.trans {w w1 : World} {v v1 v2 : Value} (hz : w.heap.size ≤ w1.heap.size) (h : Son w v v1) (k : Son w1 v1 v2) : Son w v v2 := by
  rcases k with k | k | ⟨i, k, hi⟩
  · exact .inl k
  · rcases h with h | h | ⟨j, h, hj⟩
    · exact .inl (k.trans h)
    · exact .inr (.inl (k.trans h))
    · exact .inr (.inr ⟨j, k.trans h, hj⟩)
  · exact .inr (.inr ⟨i, k, by omega⟩)

theorem Wtr.lt {t : TypeId} {N : Nat} {W : World} {B : Nat} {v : Value} {l : List UInt8} {e : Nat} (h : Wtr t N W B v l e) : B < W.heap.size := (Array.getElem?_eq_some_iff.1 h.at0).1

theorem Wtr.cells {t : TypeId} {N : Nat} {W : World} {B : Nat} {v : Value} {l : List UInt8} {e : Nat} (h : Wtr t N W B v l e) :
    W.cell? ⟨B, 0, none⟩ = some v ∧ W.cell? ⟨B, 1, none⟩ = some (.int .i64 (e : Int)) ∧ W.frozen? ⟨B, 0, none⟩ = false ∧ W.frozen? ⟨B, 1, none⟩ = false := by
  have hR := h.at0
  exact ⟨by simp [World.cell?, hR], by simp [World.cell?, hR], by simp [World.frozen?, hR], by simp [World.frozen?, hR]⟩

theorem heap_set {W : World} {B : Nat} {cs : Array Value} {t : TypeId} {z : Nat × Nat} (h : W.heap[B]? = some (.cells cs t z)) (o : Nat) (u : Value) : (W.setCell ⟨B, o, none⟩ u).heap[B]? = some (.cells (cs.setIfInBounds o u) t z) := by
  obtain ⟨hlt, he⟩ := Array.getElem?_eq_some_iff.1 h
  show (W.heap.modify B _)[B]? = _
  rw [Array.getElem?_eq_getElem (by rw [Array.size_modify]; exact hlt), Array.getElem_modify_self, he]
  rfl

/-- A writer lies on where neither its block nor its bytes are turned. -/
theorem Wtr.kept {t : TypeId} {N : Nat} {w w' : World} {B C : Nat} {v u : Value} {l : List UInt8} {e : Nat} (h : Wtr t N w B v l e) (hT : Tn w w' C u) (hBC : B ≠ C) (hBu : u.ownBlock ≠ some B) (hvC : v.ownBlock ≠ some C) (hvu : ∀ k, v.ownBlock = some k → u.ownBlock ≠ some k) : Wtr t N w' B v l e := by
  refine ⟨h.le, (hT.block B h.lt hBC hBu).trans h.at0, ?_⟩
  refine ⟨h.ow.1, ?_⟩
  rcases h.ow.2 with h2 | ⟨g, cap, cur, hv, hg, hh, r⟩
  · exact .inl h2
  · subst hv
    exact .inr ⟨g, cap, cur, rfl, hg, (hT.block g (Array.getElem?_eq_some_iff.1 hh).1 (fun e => hvC (by rw [e]; rfl)) (hvu g rfl)).trans hh, r⟩

theorem Wtr.below {t : TypeId} {N M : Nat} {w w' : World} {B : Nat} {v : Value} {l : List UInt8} {e : Nat} (h : Wtr t N w B v l e) (hB : Below M w w') (hs : w.heap.size ≤ M) : Wtr t N w' B v l e := by
  have hlt := h.lt
  exact ⟨h.le, (hB.block B (by omega)).trans h.at0, h.ow.below hB hs⟩

theorem Wtr.drewN {t : TypeId} {N : Nat} {w : World} {B : Nat} {v : Value} {l : List UInt8} {e : Nat} (h : Wtr t N w B v l e) (n : Nat) : Wtr t N (w.drewN n) B v l e :=
  h.below (M := w.heap.size) ⟨rfl, rfl, rfl, Nat.le_refl _, fun _ _ => rfl⟩ (Nat.le_refl _)

/-- The error is written. -/
theorem Wtr.err {t : TypeId} {N : Nat} {w : World} {B : Nat} {v : Value} {l : List UInt8} {e : Nat} (ht : t ≠ 5) (h : Wtr t N w B v l e) (e' : Nat) : Wtr t N (w.setCell ⟨B, 1, none⟩ (.int .i64 (e' : Int))) B v l e' :=
  ⟨h.le, by rw [heap_set h.at0]; rfl, h.ow.kept (grown_set w B 1 _) (.inr (h.ow.not_at h.at0 ht))⟩

/-- The bytes are written, that lie in memory already. -/
theorem Wtr.put {t : TypeId} {N : Nat} {w : World} {B : Nat} {v v' : Value} {l l' : List UInt8} {e : Nat} (ht : t ≠ 5) (h : Wtr t N w B v l e) (ho : Ow N w v' l') : Wtr t N (w.setCell ⟨B, 0, none⟩ v') B v' l' e :=
  ⟨h.le, by rw [heap_set h.at0]; rfl, ho.kept (grown_set w B 0 _) (.inr (ho.not_at h.at0 ht))⟩

theorem Wtr.mk' {t : TypeId} {N : Nat} {w : World} {B : Nat} {x v' : Value} {l' : List UInt8} {e : Nat} (ht : t ≠ 5) (hle : N ≤ B) (h : w.heap[B]? = some (.cells #[x, .int .i64 (e : Int)] t (0, 0))) (ho : Ow N w v' l') : Wtr t N (w.setCell ⟨B, 0, none⟩ v') B v' l' e :=
  ⟨hle, by rw [heap_set h]; rfl, ho.kept (grown_set w B 0 _) (.inr (ho.not_at h ht))⟩

theorem Son.of {w : World} {v v' : Value} (h : SameOrNew w v v') : Son w v v' := .inr h

theorem Tn.set {w w1 : World} {B : Nat} {v : Value} (h : Tn w w1 B v) (o : Nat) (u : Value) : Tn w (w1.setCell ⟨B, o, none⟩ u) B v :=
  ⟨h.os, h.tape, h.output, Nat.le_trans h.size (by simp [World.setCell]), fun k hk hB hv => (Below.heap_setCell _ _ _ k hB).trans (h.block k hk hB hv)⟩

set_option maxRecDepth 100000 in
set_option maxHeartbeats 400000 in
theorem newWriter_any (w : World) : Calls Try.prog 32 #[] w fun r w' => r = .returned (.pointer (some ⟨w.heap.size, 0, none⟩)) ∧ Wtr 129 w.heap.size w' w.heap.size (.slice none 0 0) [] 0 ∧ Below w.heap.size w w' := by
  go_enter Try.func32, Try.ntmps32
  go_wp2
  go_ret
  exact ⟨rfl, ⟨Nat.le_refl _, World.alloc_heap_new w _, Ow.nil _ _⟩, (Below.refl _ w).alloc (Nat.le_refl _) _⟩

set_option maxRecDepth 100000 in
set_option maxHeartbeats 1000000 in
/-- fail: the error is kept, what was put is dropped. -/
theorem fail_any (N B : Nat) (v : Value) (l : List UInt8) (e e' : Nat) (w : World) (h : Wtr 129 N w B v l e) :
    Calls Try.prog 87 #[.pointer (some ⟨B, 0, none⟩), .int .i64 (e' : Int)] w fun r w' => r = .returned (.tuple #[]) ∧ Wtr 129 N w' B (.slice none 0 0) [] e' ∧ Tn w w' B v := by
  obtain ⟨k0, k1, f0, f1⟩ := h.cells
  have HF : Hid (Wtr 129 N ((w.setCell ⟨B, 1, none⟩ (.int .i64 (e' : Int))).setCell ⟨B, 0, none⟩ (.slice none 0 0)) B (.slice none 0 0) [] e') := (h.err (by decide) e').put (by decide) (Ow.nil _ _)
  have HT : Hid (Tn w ((w.setCell ⟨B, 1, none⟩ (.int .i64 (e' : Int))).setCell ⟨B, 0, none⟩ (.slice none 0 0)) B v) :=
    Tn.of_grown (grown_trans (grown_set w B 1 _) (grown_set _ B 0 _) (fun k e => .inl e)) (fun k e => by cases e; exact .inl rfl)
  obtain ⟨b, c, rfl, -, -⟩ := h.ow.shape
  clear h
  go_enter Try.func87, Try.ntmps87
  go_wp2
  go_end0
  exact ⟨rfl, HF.out, HT.out⟩

/-- What a writer has, and its error, behind a number. -/
def wInt (l : List UInt8) (e : Nat) (n : Int) : List UInt8 × Nat := if e ≠ 0 then (l, e) else if isNumB n then (l ++ numB n.toNat, 0) else ([], 1)

set_option maxRecDepth 100000 in
set_option maxHeartbeats 1000000 in
theorem wwInt_any (N B : Nat) (v : Value) (l : List UInt8) (e : Nat) (n : Int) (w : World) (h : Wtr 129 N w B v l e) (hl : l.length ≤ 1073741824) :
    Calls Try.prog 55 #[.pointer (some ⟨B, 0, none⟩), .int .i64 n] w fun r w' => r = .returned (.tuple #[]) ∧ ∃ v', Wtr 129 N w' B v' (wInt l e n).1 (wInt l e n).2 ∧ Tn w w' B v ∧ Son w v v' := by
  obtain ⟨k0, k1, f0, f1⟩ := h.cells
  have hlt := h.lt
  have hle := h.le
  obtain ⟨b, c, hv, -, -⟩ := h.ow.shape
  unfold wInt
  by_cases he : e = 0
  · subst he
    rw [if_neg (by simp)]
    by_cases hN : isNumB n = true
    · rw [if_pos hN]
      have hrange : 0 ≤ n ∧ n ≤ 4611686018427387904 := by simpa [isNumB] using hN
      obtain ⟨m, rfl⟩ := Int.eq_ofNat_of_zero_le hrange.1
      simp only [Int.toNat_natCast]
      subst hv
      go_enter Try.func55, Try.ntmps55
      go_wp2_with (go_at_call 86; refine (isNumber_any _ _).mono ?_; rintro r w1 ⟨rfl, hw⟩; subst w1)
      refine (appendInt_any N _ l m (by omega) _ (by omega) hl h.ow).mono ?_
      rintro r w1 ⟨v1, rfl, hO1, hg1, hs1⟩
      have hT1 : Tn w w1 B (.slice b l.length c) := Tn.of_grown hg1 (fun k e => .inr e)
      have h1 : w1.heap[B]? = some (.cells #[.slice b l.length c, .int .i64 0] 129 (0, 0)) := (hg1.block B hlt (fun e => h.ow.not_at h.at0 (by decide) e.symm)).trans h.at0
      obtain ⟨b1, c1, rfl, -, -⟩ := hO1.shape
      have hf1 : w1.frozen? ⟨B, 0, none⟩ = false := by simp [World.frozen?, h1]
      have hc1 : w1.cell? ⟨B, 0, none⟩ = some (.slice b l.length c) := by simp [World.cell?, h1]
      have hW := Wtr.mk' (e := 0) (by decide) hle h1 hO1
      have hTT := hT1.set 0 (.slice b1 (l ++ numB m).length c1)
      have hlen : (l ++ numB m).length = l.length + (numB m).length := List.length_append
      rw [hlen] at hW hTT hs1 ⊢
      clear hlen hO1 hg1 hT1
      go_wp2
      go_end0
      exact ⟨rfl, _, hW, hTT, Son.of hs1⟩
    · rw [if_neg hN]
      have hN' : isNumB n = false := by simpa using hN
      clear hN
      subst hv
      go_enter Try.func55, Try.ntmps55
      go_wp2_with (first
        | (go_at_call 86; refine (isNumber_any _ _).mono ?_; rintro r w1 ⟨rfl, hw⟩; subst w1)
        | (go_at_call 87; refine (fail_any N B _ l 0 1 w h).mono ?_; rintro r w1 ⟨rfl, h1, hT1⟩))
      refine bodyPost_ret (results_none rfl _ _ _) rfl ?_
      exact ⟨rfl, _, h1, hT1, .inl rfl⟩
  · rw [if_pos he]
    have he' : ((e : Int) != 0) = true := by simp; omega
    go_enter Try.func55, Try.ntmps55
    go_wp2
    refine bodyPost_ret (results_none rfl _ _ _) rfl ?_
    exact ⟨rfl, v, h, Tn.refl _ _ _, Son.refl _ _⟩
end Go.Proofs.Ytfnnbfgfmbiabab

/-
  Bytes that came in, as the walks read them.
-/
namespace Go.Proofs.Ytfnnbfgfmbiabab
open Go.ChangeShapes Go.WideShapes Go.ChangeAt Go.RowKit

theorem own : ownKnob Try.prog.godebug = none := by kernel_rfl
theorem laidOut : laidOutB Try.prog = true := by kernel_rfl

/-- A slice of integers that came in: nil, or a row of cells. -/
def IsRow (k : IntKind) (w : World) (a : Option Addr) (len cap : Nat) (zs : List Int) : Prop :=
  (a = none ∧ len = 0 ∧ cap = 0 ∧ zs = []) ∨
  ∃ x, a = some x ∧ len ≤ cap ∧ cap ≤ maxLen ∧ zs.length = cap ∧ (∀ i, i < zs.length → w.cell? (x.add i) = some (.int k (zs.getD i 0))) ∧ ∀ n ∈ zs, (Lit.int k n).wf = true

theorem cell_lt {w : World} {p : Addr} {v : Value} (h : w.cell? p = some v) : p.block < w.heap.size := by
  obtain ⟨o, ho, _⟩ := cells_of_cell h
  exact (Array.getElem?_eq_some_iff.1 ho).1

theorem isRow_sl {w : World} {a : Option Addr} {len cap : Nat} {zs : List Int} (h : IsRow .u8 w a len cap zs) : ∃ l : List UInt8, l.length = len ∧ Sl w.heap.size w (.slice a len cap) l := by
  rcases h with ⟨rfl, rfl, rfl, rfl⟩ | ⟨x, rfl, hl, hm, hz, hc, hwf⟩
  · exact ⟨[], rfl, Sl.nil _ _⟩
  · refine ⟨(zs.take len).map (fun z => UInt8.ofNat z.toNat), by simp; omega, ?_⟩
    have hlen : ((zs.take len).map (fun z => UInt8.ofNat z.toNat)).length = len := by simp; omega
    refine ⟨some x, cap, by rw [hlen], by omega, hm, ?_⟩
    by_cases h0 : len = 0
    · subst h0; exact .inl (by simp)
    · obtain ⟨b, off, spot⟩ := x
      have hc0 := hc 0 (by omega)
      have hspot : spot = none := by simpa [Addr.add] using World.cell?_spot hc0
      subst hspot
      refine .inr ⟨b, off, rfl, ?_, fun i hi => ?_⟩
      · have := cell_lt hc0; rw [Addr.add_lit] at this; exact this
      · rw [hlen] at hi
        have h1 := hc i (by omega)
        rw [Addr.add_lit] at h1
        rw [h1]
        have hmem : zs.getD i 0 ∈ zs := by
          rw [List.getD_eq_getElem?_getD, List.getElem?_eq_getElem (by omega)]; exact List.getElem_mem _
        have hb := bounds_u8 (hwf _ hmem)
        simp only [List.getElem?_map, List.getElem?_take, hi, if_true, List.getD_eq_getElem?_getD] at hb ⊢
        rw [List.getElem?_eq_getElem (by omega)] at hb ⊢
        simp only [Option.getD_some, Option.map_some, encB] at hb ⊢
        congr 2
        simp
        omega
end Go.Proofs.Ytfnnbfgfmbiabab

/-
  The document's own reader: what each of its calls answers and leaves.
-/
namespace Go.Proofs.Ytfnnbfgfmbiabab
open Go.RowKit Go.Shelf

/-- Block Q holds the document's reader of the bytes l (which lie in v, below N), at the place a, with the error e. -/
structure Rrd (N : Nat) (W : World) (Q : Nat) (v : Value) (l : List UInt8) (a e : Nat) : Prop where
  le : N ≤ Q
  at0 : W.heap[Q]? = some (.cells #[v, .int .i64 (a : Int), .int .i64 (e : Int)] 135 (0, 0))
  sl : Sl N W v l

theorem Rrd.lt {N : Nat} {W : World} {Q : Nat} {v : Value} {l : List UInt8} {a e : Nat} (h : Rrd N W Q v l a e) : Q < W.heap.size := (Array.getElem?_eq_some_iff.1 h.at0).1

/-- It lies on, where another block is turned. -/
theorem Rrd.kept {N : Nat} {w w' : World} {Q : Nat} {v : Value} {l : List UInt8} {a e : Nat} {row : Option Nat} (h : Rrd N w Q v l a e) (hg : w.grownBy w' row) (hne : row ≠ some Q) (hrow : ∀ k, row = some k → N ≤ k) : Rrd N w' Q v l a e := by
  have hlt := h.lt
  have hle := h.le
  refine ⟨h.le, (hg.block Q hlt (fun e => hne e.symm)).trans h.at0, h.sl.below ⟨hg.os, hg.tape, hg.output, hg.size, fun k hk => hg.block k (by omega) (fun e => by have := hrow k e.symm; omega)⟩⟩

theorem Rrd.below {N B : Nat} {w w' : World} {Q : Nat} {v : Value} {l : List UInt8} {a e : Nat} (h : Rrd N w Q v l a e) (hB : Below B w w') (hs : w.heap.size ≤ B) : Rrd N w' Q v l a e :=
  h.kept (row := none) ⟨hB.os, hB.tape, hB.output, hB.size, fun k hk _ => hB.block k (by omega)⟩ (by simp) (by simp)

theorem Rrd.drewN {N : Nat} {w : World} {Q : Nat} {v : Value} {l : List UInt8} {a e : Nat} (h : Rrd N w Q v l a e) (n : Nat) : Rrd N (w.drewN n) Q v l a e := h.kept (row := none) (grown_drewN w n) (by simp) (by simp)

theorem Rrd.cells {N : Nat} {w : World} {Q : Nat} {v : Value} {l : List UInt8} {a e : Nat} (h : Rrd N w Q v l a e) :
    w.cell? ⟨Q, 0, none⟩ = some v ∧ w.cell? ⟨Q, 1, none⟩ = some (.int .i64 (a : Int)) ∧ w.cell? ⟨Q, 2, none⟩ = some (.int .i64 (e : Int)) ∧ w.frozen? ⟨Q, 1, none⟩ = false ∧ w.frozen? ⟨Q, 2, none⟩ = false := by
  have hR := h.at0
  exact ⟨by simp [World.cell?, hR], by simp [World.cell?, hR], by simp [World.cell?, hR], by simp [World.frozen?, hR], by simp [World.frozen?, hR]⟩

theorem Rrd.set {N : Nat} {w : World} {Q : Nat} {v : Value} {l : List UInt8} {a e : Nat} (h : Rrd N w Q v l a e) (o : Nat) (u : Value) : Sl N (w.setCell ⟨Q, o, none⟩ u) v l := by
  have hle := h.le
  exact h.sl.below ((Below.refl N w).setCell (p := ⟨Q, o, none⟩) hle u)

theorem Rrd.err {N : Nat} {w : World} {Q : Nat} {v : Value} {l : List UInt8} {a e : Nat} (h : Rrd N w Q v l a e) (e' : Nat) : Rrd N (w.setCell ⟨Q, 2, none⟩ (.int .i64 (e' : Int))) Q v l a e' := by
  have hlt := h.lt
  refine ⟨h.le, ?_, h.set _ _⟩
  show (w.heap.modify Q _)[Q]? = _
  rw [Array.getElem?_eq_getElem (by rw [Array.size_modify]; exact hlt), Array.getElem_modify_self, (Array.getElem?_eq_some_iff.1 h.at0).2]
  rfl

theorem Rrd.at' {N : Nat} {w : World} {Q : Nat} {v : Value} {l : List UInt8} {a e : Nat} (h : Rrd N w Q v l a e) (a' : Nat) : Rrd N (w.setCell ⟨Q, 1, none⟩ (.int .i64 (a' : Int))) Q v l a' e := by
  have hlt := h.lt
  refine ⟨h.le, ?_, h.set _ _⟩
  show (w.heap.modify Q _)[Q]? = _
  rw [Array.getElem?_eq_getElem (by rw [Array.size_modify]; exact hlt), Array.getElem_modify_self, (Array.getElem?_eq_some_iff.1 h.at0).2]
  rfl

set_option maxRecDepth 100000 in
set_option maxHeartbeats 1000000 in
/-- The document's Int of a reader. -/
theorem qInt_any (N Q : Nat) (v : Value) (l : List UInt8) (a e : Nat) (w : World) (h : Rrd N w Q v l a e) (hl : l.length ≤ 20000) (ha : a ≤ l.length) :
    Calls Try.prog 81 #[.pointer (some ⟨Q, 0, none⟩)] w fun r w' =>
      r = .returned (.int .i64 ((pk l a e).1 : Int)) ∧ Rrd N w' Q v l (a + (pk l a e).2.1) (pk l a e).2.2 ∧ w.grownBy w' (some Q) := by
  obtain ⟨k0, k1, k2, f1, f2⟩ := h.cells
  obtain ⟨av, c, rfl, -⟩ := id h.sl
  by_cases he : e = 0
  · subst he
    have hpk : pk l a 0 = intAt l a := rfl
    rw [hpk]
    have hbd := intAt_bd l a
    generalize hr : intAt l a = r at *
    have HR : Hid (intAt l a = r) := hr
    obtain ⟨n, s, e'⟩ := r
    obtain ⟨b1, b2, b3, -⟩ := hbd
    simp only at b1 b2 b3 ⊢
    have b4 := b3 ha
    clear hr hpk b3
    have hcall : ∀ nq, Calls Try.prog 104 #[.slice av l.length c, .int .i64 (a : Int)] (w.drewN nq) fun e w' => e = .returned (tup3 (n, s, e')) ∧ w' = w.drewN nq := fun nq => by
      have := refInt_any N _ l (a : Int) (w.drewN nq) (h.drewN nq).sl (by omega)
      rw [HR.out] at this; exact this
    unfold tup3 at hcall
    simp only at hcall
    have HC := hcall
    clear hcall
    go_enter Try.func81, Try.ntmps81
    go_wp2
    go_quiet ((go_at_call 104; exact Calls.quiet_of_same (HC _)))
    have HF : Hid (∀ nq, Rrd N (((w.drewN nq).setCell ⟨Q, 2, none⟩ (.int .i64 (e' : Int))).setCell ⟨Q, 1, none⟩ (.int .i64 ((a : Int) + (s : Int)))) Q (.slice av l.length c) l (a + s) e') := fun nq => by
      have := ((h.drewN nq).err e').at' (a + s)
      simpa using this
    have HG : Hid (∀ nq, w.grownBy (((w.drewN nq).setCell ⟨Q, 2, none⟩ (.int .i64 (e' : Int))).setCell ⟨Q, 1, none⟩ (.int .i64 ((a : Int) + (s : Int)))) (some Q)) := fun nq =>
      grown_trans (grown_trans (grown_trans (grown_refl w _) (grown_drewN w nq) (by simp)) (grown_set _ _ _ _) (fun k e => .inl e)) (grown_set _ _ _ _) (fun k e => .inl e)
    clear HC h
    go_wp2
    go_ret
    exact ⟨rfl, by simpa using HF.out _, by simpa using HG.out _⟩
  · have hpk : pk l a e = (0, 0, e) := by simp [pk, he]
    rw [hpk]
    have he' : ((e : Int) != 0) = true := by simp; omega
    go_enter Try.func81, Try.ntmps81
    go_wp2
    go_ret
    exact ⟨rfl, h, grown_refl w _⟩

set_option maxRecDepth 100000 in
set_option maxHeartbeats 1000000 in
theorem qLeft_any (N Q : Nat) (v : Value) (l : List UInt8) (a e : Nat) (w : World) (h : Rrd N w Q v l a e) (hl : l.length ≤ 20000) (ha : a ≤ l.length) :
    Calls Try.prog 84 #[.pointer (some ⟨Q, 0, none⟩)] w fun r w' => r = .returned (.int .i64 ((l.length : Int) - (a : Int))) ∧ ∃ n, w' = w.drewN n := by
  obtain ⟨k0, k1, k2, f1, f2⟩ := h.cells
  obtain ⟨av, c, rfl, -⟩ := id h.sl
  go_enter Try.func84, Try.ntmps84
  go_wp2
  go_quiet (fail)
  go_wp2
  go_ret
  exact ⟨rfl, _, rfl⟩

set_option maxRecDepth 100000 in
set_option maxHeartbeats 1000000 in
theorem qDone_any (N Q : Nat) (v : Value) (l : List UInt8) (a e : Nat) (w : World) (h : Rrd N w Q v l a e) (hl : l.length ≤ 20000) (ha : a ≤ l.length) :
    Calls Try.prog 42 #[.pointer (some ⟨Q, 0, none⟩)] w fun r w' => r = .returned (.int .i64 (doneE l a e : Int)) ∧ ∃ n, w' = w.drewN n := by
  obtain ⟨k0, k1, k2, f1, f2⟩ := h.cells
  by_cases he : e = 0
  · subst he
    by_cases hlt : a < l.length
    · have HE : Hid (doneE l a 0 = 3) := by show doneE l a 0 = 3; simp [doneE, hlt]
      go_enter Try.func42, Try.ntmps42
      go_wp2_with (go_at_call 84; refine (qLeft_any N Q v l a 0 w h hl ha).mono ?_; rintro r w1 ⟨rfl, n, rfl⟩)
      go_ret
      exact ⟨by rw [HE.out]; rfl, _, rfl⟩
    · have HE : Hid (doneE l a 0 = 0) := by show doneE l a 0 = 0; simp [doneE, hlt]
      go_enter Try.func42, Try.ntmps42
      go_wp2_with (go_at_call 84; refine (qLeft_any N Q v l a 0 w h hl ha).mono ?_; rintro r w1 ⟨rfl, n, rfl⟩)
      go_ret
      exact ⟨by rw [HE.out]; rfl, _, rfl⟩
  · have HE : Hid (doneE l a e = e) := by show doneE l a e = e; simp [doneE, he]
    have he' : ((e : Int) == 0) = false := by simp; omega
    go_enter Try.func42, Try.ntmps42
    go_wp2
    go_ret
    exact ⟨by rw [HE.out]; rfl, 0, rfl⟩
end Go.Proofs.Ytfnnbfgfmbiabab

/-
  A writer of wire: Bool, Bytes, Text, Done.
-/
namespace Go.Proofs.Ytfnnbfgfmbiabab
open Go.RowKit Go.Shelf

theorem wInt_len (l : List UInt8) (e : Nat) (n : Int) : (wInt l e n).1.length ≤ l.length + 10 := by
  unfold wInt
  split
  · simp
  · split
    · have := num_len_le 9 n.toNat; simp [numB]; omega
    · simp

set_option maxRecDepth 100000 in
set_option maxHeartbeats 1000000 in
theorem wwBool_any (N B : Nat) (v : Value) (l : List UInt8) (e : Nat) (t : Bool) (w : World) (h : Wtr 129 N w B v l e) (hl : l.length ≤ 1073741824) :
    Calls Try.prog 89 #[.pointer (some ⟨B, 0, none⟩), .bool t] w fun r w' => r = .returned (.tuple #[]) ∧ ∃ v', Wtr 129 N w' B v' (wInt l e (if t then 1 else 0)).1 (wInt l e (if t then 1 else 0)).2 ∧ Tn w w' B v ∧ Son w v v' := by
  cases t with
  | true =>
    simp only [if_true]
    go_enter Try.func89, Try.ntmps89
    go_wp2_with (go_at_call 55; refine (wwInt_any N B v l e 1 w h hl).mono ?_; rintro r w1 ⟨rfl, h1⟩)
    go_end0
    exact ⟨rfl, h1⟩
  | false =>
    simp only [Bool.false_eq_true, if_false]
    go_enter Try.func89, Try.ntmps89
    go_wp2_with (go_at_call 55; refine (wwInt_any N B v l e 0 w h hl).mono ?_; rintro r w1 ⟨rfl, h1⟩)
    go_end0
    exact ⟨rfl, h1⟩

theorem frozen_at0 {w : World} {B : Nat} {x y : Value} {t : TypeId} (h : w.heap[B]? = some (.cells #[x, y] t (0, 0))) : w.frozen? ⟨B, 0, none⟩ = false := by simp [World.frozen?, h]
theorem cell_at0 {w : World} {B : Nat} {x y : Value} {t : TypeId} (h : w.heap[B]? = some (.cells #[x, y] t (0, 0))) : w.cell? ⟨B, 0, none⟩ = some x := by simp [World.cell?, h]

theorem Sl.tn {M : Nat} {w w' : World} {B : Nat} {v x : Value} {m : List UInt8} (h : Sl M w x m) (hM : M ≤ w.heap.size) (hT : Tn w w' B v) (hd : m ≠ [] → x.ownBlock ≠ some B ∧ ∀ k, x.ownBlock = some k → v.ownBlock ≠ some k) : Sl M w' x m := by
  obtain ⟨a, cap, rfl, h1, h2, h3⟩ := h
  refine ⟨a, cap, rfl, h1, h2, ?_⟩
  rcases h3 with h3 | ⟨b, off, rfl, hb, hc⟩
  · exact .inl h3
  · refine .inr ⟨b, off, rfl, hb, fun i hi => ?_⟩
    obtain ⟨hB, hv⟩ := hd (by intro e; subst e; simp at hi)
    exact (World.cell?_of_block (hT.block b (by omega) (fun e => hB (by rw [e]; rfl)) (hv b rfl))).trans (hc i hi)

/-- What a writer has, and its error, behind bytes. -/
def wBytes (l : List UInt8) (e : Nat) (m : List UInt8) (most : Int) : List UInt8 × Nat := if e ≠ 0 then (l, e) else if max most 0 < (m.length : Int) then ([], 3) else (l ++ numB m.length ++ m, 0)

set_option maxRecDepth 100000 in
set_option maxHeartbeats 2000000 in
theorem wwBytes_any (N B M : Nat) (v x : Value) (l m : List UInt8) (e : Nat) (most : Int) (w : World) (h : Wtr 129 N w B v l e) (hl : l.length ≤ 1073741824) (hm : m.length ≤ 1073741824)
    (hx : Sl M w x m) (hM : M ≤ w.heap.size) (hxd : m ≠ [] → x.ownBlock ≠ some B ∧ ∀ k, x.ownBlock = some k → v.ownBlock ≠ some k) :
    Calls Try.prog 74 #[.pointer (some ⟨B, 0, none⟩), x, .int .i64 most] w fun r w' => r = .returned (.tuple #[]) ∧ ∃ v', Wtr 129 N w' B v' (wBytes l e m most).1 (wBytes l e m most).2 ∧ Tn w w' B v ∧ Son w v v' := by
  obtain ⟨k0, k1, f0, f1⟩ := h.cells
  have hlt := h.lt
  have hle := h.le
  obtain ⟨b, c, hv, -, -⟩ := h.ow.shape
  obtain ⟨bx, cx, hxx, -⟩ := id hx
  subst hxx
  unfold wBytes
  by_cases he : e = 0
  · subst he
    rw [if_neg (by simp)]
    have hcase : (most < 0 ∧ max most 0 = 0) ∨ (¬ most < 0 ∧ max most 0 = most) := by omega
    have hmost : ∃ mm : Int, max most 0 = mm ∧ ((most < 0 ∧ mm = 0) ∨ (¬ most < 0 ∧ mm = most)) := ⟨_, rfl, hcase⟩
    obtain ⟨mm, hmm, hcase'⟩ := hmost
    rw [hmm]
    by_cases hbig : mm < (m.length : Int)
    · rw [if_pos hbig]
      subst hv
      clear hmm hcase
      rcases hcase' with ⟨hneg, rfl⟩ | ⟨hneg, rfl⟩
      all_goals
        go_enter Try.func74, Try.ntmps74
        go_wp2_with (go_at_call 87; refine (fail_any N B _ l 0 3 w h).mono ?_; rintro r w1 ⟨rfl, h1, hT1⟩)
        refine bodyPost_ret (results_none rfl _ _ _) rfl ?_
        exact ⟨rfl, _, h1, hT1, .inl rfl⟩
    · rw [if_neg hbig]
      subst hv
      clear hmm hcase
      have hnb := num_len_le 9 m.length
      have hlen : (l ++ numB m.length).length = l.length + (numB m.length).length := List.length_append
      rcases hcase' with ⟨hneg, rfl⟩ | ⟨hneg, rfl⟩
      all_goals
        go_enter Try.func74, Try.ntmps74
        go_wp2_with fail
        refine (appendInt_any N _ l m.length (by omega) w (by omega) hl h.ow).mono ?_
        rintro r w1 ⟨v1, rfl, hO1, hg1, hs1⟩
        have hT1 : Tn w w1 B (.slice b l.length c) := Tn.of_grown hg1 (fun k e => .inr e)
        have h1 : w1.heap[B]? = some (.cells #[.slice b l.length c, .int .i64 0] 129 (0, 0)) := (hg1.block B hlt (fun e => h.ow.not_at h.at0 (by decide) e.symm)).trans h.at0
        have hx1 := hx.tn hM hT1 hxd
        obtain ⟨b1, c1, hv1, -, -⟩ := hO1.shape
        rw [hlen] at hv1
        subst hv1
        have hz1 := hg1.size
        go_wp2_with (at_builtin; refine wpList_append_ow rfl _ _ rfl N M _ _ (l ++ numB m.length) m rfl hO1 rfl hx1 (by rw [hlen]; unfold numB; omega) (by omega) ?_; intro v2 w2 hO2 hg2 hn2; obtain ⟨b2, c2, hv2, -, -⟩ := hO2.shape; rw [List.length_append, hlen] at hv2; subst hv2; have h2 : w2.heap[B]? = some (.cells #[.slice b l.length c, .int .i64 0] 129 (0, 0)) := (hg2.block B (by omega) (fun e => hO1.not_at h1 (by decide) e.symm)).trans h1; have hf2 := frozen_at0 h2; have hc2 := cell_at0 h2)
        go_end0
        have hS : Son w (.slice b l.length c) (.slice b1 (l.length + (numB m.length).length) c1) := Son.of hs1
        have hT2 : Tn w1 w2 B (.slice b1 (l.length + (numB m.length).length) c1) := Tn.of_grown hg2 (fun k e => .inr e)
        refine ⟨rfl, _, Wtr.mk' (e := 0) (by decide) hle h2 hO2, (hT1.trans hS hT2).set 0 _, hS.trans hz1 ?_⟩
        rcases hn2 with hn2 | hn2
        · exact .inr (.inl hn2)
        · exact .inr (.inr ⟨_, hn2, Nat.le_refl _⟩)
  · rw [if_pos he]
    have he' : ((e : Int) != 0) = true := by simp; omega
    go_enter Try.func74, Try.ntmps74
    go_wp2
    refine bodyPost_ret (results_none rfl _ _ _) rfl ?_
    exact ⟨rfl, v, h, Tn.refl _ _ _, Son.refl _ _⟩

/-- The bytes of a text, in new memory. -/
theorem conv_str (w : World) (m : List UInt8) (hm : m.length ≤ 1073741824) : ∃ cap w1, (convert 9 23 (.string ⟨m.toArray⟩)).run Try.prog w = .ok (.slice (some ⟨w.heap.size, 0, none⟩) m.length cap) w1 ∧ Sl w1.heap.size w1 (.slice (some ⟨w.heap.size, 0, none⟩) m.length cap) m ∧ Below w.heap.size w w1 := by
  refine ⟨_, _, run_bytes_of_string w 9 23 5 ⟨m.toArray⟩ Try.underlying9 Try.underlying23 Try.underlying5, ?_, ?_⟩
  · have hsz : (⟨m.toArray⟩ : ByteArray).size = m.length := by simp [ByteArray.size]
    refine ⟨_, _, rfl, ?_, ?_, ?_⟩
    · have := grownCap_ge w m.length 0 5; rw [hsz]; exact this
    · exact grownCap_le_maxLen w _ 0 5 (by rw [hsz]; unfold maxLen; omega)
    · refine .inr ⟨w.heap.size, 0, rfl, by simp, fun i hi => ?_⟩
      have hh := World.cell?_alloc_mark w.drew (bytesRow ⟨m.toArray⟩ (grownCap w (⟨m.toArray⟩ : ByteArray).size 0 5)) 5 ((bytesRow ⟨m.toArray⟩ (grownCap w (⟨m.toArray⟩ : ByteArray).size 0 5)).size, (bytesRow ⟨m.toArray⟩ (grownCap w (⟨m.toArray⟩ : ByteArray).size 0 5)).size + 1) (0 + i)
      refine Eq.trans hh ?_
      unfold bytesRow
      rw [Nat.zero_add, Array.getElem?_append_left (by simpa using hi)]
      simp [encB, hi]
  · exact ((Below.refl _ w).drew).alloc (Nat.le_refl _) _

set_option maxRecDepth 100000 in
set_option maxHeartbeats 2000000 in
theorem wwText_any (N B : Nat) (v : Value) (l m : List UInt8) (e : Nat) (most : Int) (w : World) (h : Wtr 129 N w B v l e) (hl : l.length ≤ 1073741824) (hm : m.length ≤ 1073741824) :
    Calls Try.prog 136 #[.pointer (some ⟨B, 0, none⟩), .string ⟨m.toArray⟩, .int .i64 most] w fun r w' => r = .returned (.tuple #[]) ∧ ∃ v', Wtr 129 N w' B v' (wBytes l e m most).1 (wBytes l e m most).2 ∧ Tn w w' B v ∧ Son w v v' := by
  obtain ⟨cap, w1, hcv, hs1, hB1⟩ := conv_str w m hm
  have h1 := h.below hB1 (Nat.le_refl _)
  have hlt := h.lt
  have hvl : ∀ k, v.ownBlock = some k → k < w.heap.size := fun k hk => (World.ownsRow.lt h.ow k hk).2
  have hz := hB1.size
  have cW := wwBytes_any N B w1.heap.size v _ l m e most w1 h1 hl hm hs1 (Nat.le_refl _) (fun _ => ⟨by simp [Value.ownBlock]; omega, fun k hk hv => by simp [Value.ownBlock] at hk; have := hvl k hv; omega⟩)
  go_enter Try.func136, Try.ntmps136
  go_wp2_with (go_at_call 74; refine cW.mono ?_; rintro r w2 ⟨rfl, v2, hW2, hT2, hS2⟩)
  go_end0
  have hT1 : Tn w w1 B v := Tn.of_grown (row := none) ⟨hB1.os, hB1.tape, hB1.output, hB1.size, fun k hk _ => hB1.block k hk⟩ (by simp)
  exact ⟨rfl, v2, hW2, hT1.trans (Son.refl _ _) hT2, (Son.refl w v).trans hz hS2⟩

set_option maxRecDepth 100000 in
set_option maxHeartbeats 2000000 in
theorem wwDone_any (N B : Nat) (v : Value) (l : List UInt8) (e : Nat) (w : World) (h : Wtr 129 N w B v l e) (hl : l.length ≤ 1073741824) :
    Calls Try.prog 34 #[.pointer (some ⟨B, 0, none⟩)] w fun r w' => ∃ u, r = .returned (.tuple #[u, .int .i64 (e : Int)]) ∧ Ow w.heap.size w' u l ∧ Below w.heap.size w w' := by
  obtain ⟨k0, k1, f0, f1⟩ := h.cells
  obtain ⟨b, c, rfl, -, -⟩ := h.ow.shape
  have hlt := h.lt
  have hs : Sl w.heap.size w.drew (.slice b l.length c) l := (h.ow.sl (Nat.le_refl _)).below ⟨rfl, rfl, rfl, Nat.le_refl _, fun _ _ => rfl⟩
  go_enter Try.func34, Try.ntmps34
  go_wp2
  go_region_held3 (fun w' => w'.cell? ⟨B, 0, none⟩ = some (.slice b l.length c) ∧ w'.cell? ⟨B, 1, none⟩ = some (.int .i64 (e : Int))) (go_keep)
    (first | (go_at_call 77; refine (fresh_any _ _ l _ hs (by omega)).mono ?_; rintro r w1 ⟨u, rfl, hO1, hB1⟩; obtain ⟨b1, c1, rfl, -, -⟩ := hO1.shape; have q0 := (hB1.cell (p := ⟨B, 0, none⟩) hlt).trans k0; have q1 := (hB1.cell (p := ⟨B, 1, none⟩) hlt).trans k1))
  have hBB : Below w.heap.size w w1 := ⟨hB1.os, hB1.tape, hB1.output, hB1.size, hB1.block⟩
  clear q0 q1 hs
  go_wp2
  go_ret2
  exact ⟨_, rfl, hO1, hBB⟩
end Go.Proofs.Ytfnnbfgfmbiabab

/-
  Puts that came in: their bytes, and whether these are few.
-/
namespace Go.Proofs.Ytfnnbfgfmbiabab
open Go.RowKit Go.Shelf

/-- One put, as it lies in memory, and the bytes that it tells. -/
structure PutD where
  kind : Int
  n : Int
  most : Int
  t : Bool
  a : Option Addr
  cap : Nat
  bs : List UInt8

def PutD.x (d : PutD) : Value := .slice d.a d.bs.length d.cap

/-- Puts that came in. -/
def PutsAt (N : Nat) (w : World) (a : Option Addr) (n : Nat) (D : Nat → PutD) : Prop :=
  n = 0 ∨ ∃ b off, a = some ⟨b, off, none⟩ ∧ b < N ∧ ∀ i, i < n → w.cell? ⟨b, off + i * 5, none⟩ = some (.int .i64 (D i).kind) ∧ w.cell? ⟨b, off + i * 5 + 1, none⟩ = some (.int .i64 (D i).n) ∧
    w.cell? ⟨b, off + i * 5 + 2, none⟩ = some (.int .i64 (D i).most) ∧ w.cell? ⟨b, off + i * 5 + 3, none⟩ = some (.bool (D i).t) ∧ w.cell? ⟨b, off + i * 5 + 4, none⟩ = some (D i).x ∧ Sl N w (D i).x (D i).bs

theorem info23 : (Try.prog.info? 23).map (fun i => (i.zero, i.size, i.bytes)) = some (some (.slice none 0 0), 1, 24) := by kernel_rfl

/-- The headers of the puts' bytes. -/
def heads (D : Nat → PutD) (n : Nat) : List Value := (List.range n).map fun i => (D i).x

theorem heads_succ (D : Nat → PutD) (n : Nat) : heads D (n + 1) = heads D n ++ [(D n).x] := by simp [heads, List.range_succ]
theorem heads_len (D : Nat → PutD) (n : Nat) : (heads D n).length = n := by simp [heads]

/-- How many bytes the first n have. -/
def total (D : Nat → PutD) : Nat → Nat
  | 0 => 0
  | n + 1 => total D n + (D n).bs.length

/-- What Few answers. -/
def Fewed (D : Nat → PutD) (n : Nat) (r : Ending) : Prop := ∃ t, r = .returned (.bool t) ∧ (t = true → total D n ≤ 20000)

theorem ownsRow_cell {w : World} {N : Nat} {v : Value} {n : Nat} {xs : List Value} (h : w.ownsRow N 23 1 v n xs) (hn : 0 < n) : ∃ g cap, v = .slice (some ⟨g, 0, none⟩) n cap ∧ cap ≤ maxLen ∧ ∀ i, i < n → w.cell? ⟨g, i, none⟩ = xs[i]? := by
  rcases h.2 with ⟨_, h0⟩ | ⟨g, cap, cur, rfl, _, hg, h1, h2, h3, h4⟩
  · omega
  · refine ⟨g, cap, rfl, h2, fun i hi => ?_⟩
    simp only [World.cell?, hg]
    rw [Nat.mul_one] at h4
    rw [← h4, List.getElem?_take, if_pos hi]
    simp

end Go.Proofs.Ytfnnbfgfmbiabab

/-
  What a writer has behind the first k puts, and that a reader finds it again.
-/
namespace Go.Proofs.Ytfnnbfgfmbiabab
open Go.RowKit Go.Shelf

/-- One put. -/
def stepP (s : List UInt8 × Nat) (d : PutD) : List UInt8 × Nat :=
  if d.kind = 0 then wInt s.1 s.2 d.n
  else if d.kind = 1 then wInt s.1 s.2 (if d.t then 1 else 0)
  else if d.kind = 2 then wBytes s.1 s.2 d.bs d.most
  else if d.kind = 3 then wBytes s.1 s.2 d.bs d.most
  else s

/-- The first k puts. -/
def told (D : Nat → PutD) : Nat → List UInt8 × Nat
  | 0 => ([], 0)
  | k + 1 => stepP (told D k) (D k)

theorem wBytes_len (l : List UInt8) (e : Nat) (m : List UInt8) (most : Int) : (wBytes l e m most).1.length ≤ l.length + 10 + m.length := by
  have := num_len_le 9 m.length
  unfold wBytes
  split
  · simp; omega
  · split
    · simp
    · simp [numB]; omega

theorem stepP_len (s : List UInt8 × Nat) (d : PutD) : (stepP s d).1.length ≤ s.1.length + 10 + d.bs.length := by
  unfold stepP
  split
  · have := wInt_len s.1 s.2 d.n; omega
  · split
    · have := wInt_len s.1 s.2 (if d.t then 1 else 0); omega
    · split
      · exact wBytes_len _ _ _ _
      · split
        · exact wBytes_len _ _ _ _
        · omega

theorem told_len (D : Nat → PutD) : ∀ k, (told D k).1.length ≤ 10 * k + total D k
  | 0 => by simp [told]
  | k + 1 => by
    have h1 := told_len D k
    have h2 := stepP_len (told D k) (D k)
    simp only [told, total]; omega

theorem total_mono (D : Nat → PutD) : ∀ {k n}, k ≤ n → total D k ≤ total D n
  | k, 0, h => by have : k = 0 := by omega
                  subst this; exact Nat.le_refl _
  | k, n + 1, h => by
    by_cases e : k = n + 1
    · subst e; exact Nat.le_refl _
    · have := total_mono D (show k ≤ n by omega); simp only [total]; omega

theorem total_one (D : Nat → PutD) {k n : Nat} (h : k < n) : (D k).bs.length ≤ total D n := by
  have := total_mono D (show k + 1 ≤ n from h)
  simp only [total] at this; omega

/-- An error stays, and nothing is had behind it. -/
theorem stepP_err (s : List UInt8 × Nat) (d : PutD) (h : s.2 ≠ 0 → s.1 = []) : ((stepP s d).2 ≠ 0 → (stepP s d).1 = []) ∧ ((stepP s d).2 = 0 → s.2 = 0) := by
  have hw : ∀ n, ((wInt s.1 s.2 n).2 ≠ 0 → (wInt s.1 s.2 n).1 = []) ∧ ((wInt s.1 s.2 n).2 = 0 → s.2 = 0) := by
    intro n; unfold wInt
    by_cases he : s.2 = 0
    · rw [if_neg (by simpa using he)]; split <;> simp [he]
    · rw [if_pos he]; exact ⟨h, fun h => h⟩
  have hb : ∀ m most, ((wBytes s.1 s.2 m most).2 ≠ 0 → (wBytes s.1 s.2 m most).1 = []) ∧ ((wBytes s.1 s.2 m most).2 = 0 → s.2 = 0) := by
    intro m most; unfold wBytes
    by_cases he : s.2 = 0
    · rw [if_neg (by simpa using he)]; split <;> simp [he]
    · rw [if_pos he]; exact ⟨h, fun h => h⟩
  unfold stepP
  split
  · exact hw _
  · split
    · exact hw _
    · split
      · exact hb _ _
      · split
        · exact hb _ _
        · exact ⟨h, fun h => h⟩

theorem told_err (D : Nat → PutD) : ∀ k, (told D k).2 ≠ 0 → (told D k).1 = []
  | 0 => by simp [told]
  | k + 1 => (stepP_err (told D k) (D k) (told_err D k)).1

theorem told_ok (D : Nat → PutD) : ∀ {k n}, k ≤ n → (told D n).2 = 0 → (told D k).2 = 0
  | k, 0, h, h0 => by have : k = 0 := by omega
                      subst this; exact h0
  | k, n + 1, h, h0 => by
    by_cases e : k = n + 1
    · subst e; exact h0
    · exact told_ok D (show k ≤ n by omega) ((stepP_err (told D n) (D n) (told_err D n)).2 h0)

/-- The bytes of one put that has no error. -/
def encP (d : PutD) : List UInt8 :=
  if d.kind = 0 then numB d.n.toNat
  else if d.kind = 1 then numB (if d.t then 1 else 0)
  else if d.kind = 2 ∨ d.kind = 3 then numB d.bs.length ++ d.bs
  else []

/-- What a put without an error is. -/
theorem stepP_ok (s : List UInt8 × Nat) (d : PutD) (h : (stepP s d).2 = 0) (hs : s.2 = 0) :
    (stepP s d).1 = s.1 ++ encP d ∧ (d.kind = 0 → isNumB d.n = true) ∧ (d.kind = 2 ∨ d.kind = 3 → (d.bs.length : Int) ≤ max d.most 0) := by
  unfold stepP at h ⊢
  unfold encP
  by_cases k0 : d.kind = 0
  · rw [if_pos k0] at h ⊢
    rw [if_pos k0]
    unfold wInt at h ⊢
    rw [if_neg (by simpa using hs)] at h ⊢
    by_cases hN : isNumB d.n = true
    · rw [if_pos hN] at h ⊢
      exact ⟨rfl, fun _ => hN, fun h => by omega⟩
    · rw [if_neg hN] at h; simp at h
  · rw [if_neg k0] at h ⊢
    rw [if_neg k0]
    by_cases k1 : d.kind = 1
    · rw [if_pos k1] at h ⊢
      rw [if_pos k1]
      unfold wInt at h ⊢
      rw [if_neg (by simpa using hs)] at h ⊢
      have hN : isNumB (if d.t then 1 else 0) = true := by cases d.t <;> decide
      rw [if_pos hN]
      refine ⟨?_, fun h => absurd h k0, fun h => by omega⟩
      cases d.t <;> rfl
    · rw [if_neg k1] at h ⊢
      rw [if_neg k1]
      have key : ∀ (hk : d.kind = 2 ∨ d.kind = 3), (wBytes s.1 s.2 d.bs d.most).2 = 0 → (wBytes s.1 s.2 d.bs d.most).1 = s.1 ++ (if d.kind = 2 ∨ d.kind = 3 then numB d.bs.length ++ d.bs else []) ∧ (d.bs.length : Int) ≤ max d.most 0 := by
        intro hk hh
        rw [if_pos hk]
        unfold wBytes at hh ⊢
        rw [if_neg (by simpa using hs)] at hh ⊢
        by_cases hb : max d.most 0 < (d.bs.length : Int)
        · rw [if_pos hb] at hh; simp at hh
        · rw [if_neg hb]; exact ⟨by simp, by omega⟩
      by_cases k2 : d.kind = 2
      · rw [if_pos k2] at h ⊢
        obtain ⟨h1, h2⟩ := key (.inl k2) h
        exact ⟨h1, fun h => absurd h k0, fun _ => h2⟩
      · rw [if_neg k2] at h ⊢
        by_cases k3 : d.kind = 3
        · rw [if_pos k3] at h ⊢
          obtain ⟨h1, h2⟩ := key (.inr k3) h
          exact ⟨h1, fun h => absurd h k0, fun _ => h2⟩
        · rw [if_neg k3] at h ⊢
          rw [if_neg (by omega)]
          exact ⟨by simp, fun h => absurd h k0, fun h => by omega⟩

/-- A number inside bytes. -/
theorem intAt_mid (pre : List UInt8) (n : Nat) (t : List UInt8) (h : n ≤ 4611686018427387904) : intAt (pre ++ (numB n ++ t)) (pre.length : Int) = (n, (numB n).length, 0) := by
  have h1 := intAt_num n t h
  have hp : 0 < (numB n).length := num_len_pos 9 n
  unfold intAt at h1 ⊢
  rw [if_neg (by simp; omega)] at h1
  rw [if_neg (by simp; omega)]
  simp only [Int.toNat_natCast, List.drop_zero] at h1 ⊢
  rw [List.drop_left]
  exact h1

theorem pk_mid (pre : List UInt8) (n : Nat) (t : List UInt8) (h : n ≤ 4611686018427387904) : pk (pre ++ (numB n ++ t)) pre.length 0 = (n, (numB n).length, 0) := intAt_mid pre n t h

theorem boolAt_mid (pre : List UInt8) (b : Bool) (t : List UInt8) : boolAt (pre ++ (numB (if b then 1 else 0) ++ t)) pre.length 0 = (b, pre.length + (numB (if b then 1 else 0)).length, 0) := by
  unfold boolAt
  rw [pk_mid pre _ t (by cases b <;> decide)]
  cases b <;> simp

theorem takeAt_mid (pre m t : List UInt8) (most : Int) (hm : m.length ≤ 1073741824) (hmost : (m.length : Int) ≤ max most 0) : takeAt (pre ++ (numB m.length ++ m ++ t)) pre.length 0 most = (m, pre.length + (numB m.length).length + m.length, 0) := by
  have hpk := pk_mid pre m.length (m ++ t) (by omega)
  rw [← List.append_assoc (numB m.length)] at hpk
  unfold takeAt
  rw [hpk]
  simp only [ne_eq, not_true, if_false]
  rw [if_neg (by omega), if_neg (by simp; omega)]
  have e : (pre ++ (numB m.length ++ m ++ t)).drop (pre.length + (numB m.length).length) = m ++ t := by
    rw [List.append_assoc (numB m.length), ← List.append_assoc pre, List.drop_left' (by simp)]
  rw [e, List.take_left]

/-- Bytes from outside lie apart from a writer's memory. -/
theorem apart_out {t : TypeId} {M N : Nat} {w : World} {B : Nat} {v x : Value} {l m : List UInt8} {e : Nat} (h : Wtr t N w B v l e) (hx : Sl M w x m) (hMN : M ≤ N) : m ≠ [] → x.ownBlock ≠ some B ∧ ∀ k, x.ownBlock = some k → v.ownBlock ≠ some k := by
  intro hm
  obtain ⟨a, cap, rfl, _, _, h3⟩ := hx
  obtain ⟨b, off, rfl, hb, _⟩ := h3.resolve_left hm
  have hle := h.le
  refine ⟨by simp [Value.ownBlock]; omega, fun k hk hv => ?_⟩
  simp [Value.ownBlock] at hk
  have := (World.ownsRow.lt h.ow k hv).1
  omega

theorem Tn.of_below {w w' : World} {B : Nat} {v : Value} (h : Below w.heap.size w w') : Tn w w' B v := Tn.of_grown (row := none) ⟨h.os, h.tape, h.output, h.size, fun k hk _ => h.block k hk⟩ (by simp)

end Go.Proofs.Ytfnnbfgfmbiabab

/-
  The document's own writer: what each of its calls leaves.
-/
namespace Go.Proofs.Ytfnnbfgfmbiabab
open Go.RowKit Go.Shelf

def putN (n : Int) : Nat := if isNumB n then 0 else 1
theorem putE_N (n : Int) : putE n = (putN n : Int) := by unfold putE putN; split <;> rfl

/-- What the document's writer has, and its error, behind a number. -/
def vInt (l : List UInt8) (e : Nat) (n : Int) : List UInt8 × Nat := if e ≠ 0 then (l, e) else (l ++ putB n, putN n)
def vBytes (l : List UInt8) (e : Nat) (m : List UInt8) (most : Int) : List UInt8 × Nat := if e ≠ 0 then (l, e) else if max most 0 < (m.length : Int) then (l, 3) else (l ++ numB m.length ++ m, 0)

set_option maxRecDepth 100000 in
set_option maxHeartbeats 1000000 in
theorem vvInt_any (N B : Nat) (v : Value) (l : List UInt8) (e : Nat) (n : Int) (w : World) (h : Wtr 86 N w B v l e) (hl : l.length ≤ 1073741824) :
    Calls Try.prog 36 #[.pointer (some ⟨B, 0, none⟩), .int .i64 n] w fun r w' => r = .returned (.tuple #[]) ∧ ∃ v', Wtr 86 N w' B v' (vInt l e n).1 (vInt l e n).2 ∧ Tn w w' B v ∧ Son w v v' := by
  obtain ⟨k0, k1, f0, f1⟩ := h.cells
  have hlt := h.lt
  have hle := h.le
  obtain ⟨b, c, hv, -, -⟩ := h.ow.shape
  unfold vInt
  by_cases he : e = 0
  · subst he
    rw [if_neg (by simp)]
    have hpl := putB_len n
    have hE := putE_N n
    subst hv
    go_enter Try.func36, Try.ntmps36
    go_wp2_with fail
    refine (refPut_any n _).mono ?_
    rintro r w1 ⟨p, rfl, hOp, hB1⟩
    rw [hE]
    have hz1 := hB1.size
    have h1 := h.below hB1 (Nat.le_refl _)
    have h2 := h1.err (by decide) (putN n)
    have hTs : Tn w (w1.setCell ⟨B, 1, none⟩ (.int .i64 (putN n : Int))) B (.slice b l.length c) := (Tn.of_below hB1).set 1 _
    have hpB : p.ownBlock ≠ some B := fun e => by have := (World.ownsRow.lt hOp B e).1; omega
    have hO2 : Ow w.heap.size (w1.setCell ⟨B, 1, none⟩ (.int .i64 (putN n : Int))) p (putB n) := hOp.kept (grown_set w1 B 1 _) (.inr hpB)
    obtain ⟨bp, cp, rfl, -, -⟩ := hOp.shape
    obtain ⟨q0, q1, e0, e1⟩ := h1.cells
    obtain ⟨W2, hW2⟩ : ∃ W2, w1.setCell ⟨B, 1, none⟩ (.int .i64 (putN n : Int)) = W2 := ⟨_, rfl⟩
    rw [hW2] at h2 hTs hO2
    obtain ⟨m0, m1, n0, n1⟩ := h2.cells
    have hz2 := hTs.size
    have hs2 := hO2.sl (Nat.le_refl W2.heap.size)
    clear hOp hB1 h1 hpB hO2 hE
    generalize (putN n : Int) = pe at *
    generalize hpb : putB n = pb at *
    go_wp2_with (at_builtin; refine wpList_append_ow rfl _ _ rfl N W2.heap.size _ _ l pb rfl h2.ow rfl hs2 (by omega) (by omega) ?_; intro v2 w2 hO2 hg2 hn2; obtain ⟨b2, c2, hv2, -, -⟩ := hO2.shape; rw [List.length_append] at hv2; subst hv2; have h3 := (hg2.block B h2.lt (fun e => h2.ow.not_at h2.at0 (by decide) e.symm)).trans h2.at0; have hf2 := frozen_at0 h3; have hc2 := cell_at0 h3)
    go_end0
    have hT2 : Tn W2 w2 B (.slice b l.length c) := Tn.of_grown hg2 (fun k e => .inr e)
    rw [hpb]
    refine ⟨rfl, _, Wtr.mk' (by decide) hle h3 hO2, (hTs.trans (Son.refl _ _) hT2).set 0 _, ?_⟩
    rcases hn2 with hn2 | hn2
    · exact .inr (.inl hn2)
    · exact .inr (.inr ⟨_, hn2, hz2⟩)
  · rw [if_pos he]
    have he' : ((e : Int) != 0) = true := by simp; omega
    go_enter Try.func36, Try.ntmps36
    go_wp2
    refine bodyPost_ret (results_none rfl _ _ _) rfl ?_
    exact ⟨rfl, v, h, Tn.refl _ _ _, Son.refl _ _⟩

theorem vInt_len (l : List UInt8) (n : Nat) (h : n ≤ 1073741824) : vInt l 0 (n : Int) = (l ++ numB n, 0) := by
  have hN : isNumB (n : Int) = true := by simp [isNumB]; omega
  simp [vInt, putB, putN, hN]

set_option maxRecDepth 100000 in
set_option maxHeartbeats 2000000 in
theorem vvBytes_any (N B M : Nat) (v x : Value) (l m : List UInt8) (e : Nat) (most : Int) (w : World) (h : Wtr 86 N w B v l e) (hl : l.length ≤ 1073740824) (hm : m.length ≤ 1073741824)
    (hx : Sl M w x m) (hM : M ≤ w.heap.size) (hxd : m ≠ [] → x.ownBlock ≠ some B ∧ ∀ k, x.ownBlock = some k → v.ownBlock ≠ some k) :
    Calls Try.prog 37 #[.pointer (some ⟨B, 0, none⟩), x, .int .i64 most] w fun r w' => r = .returned (.tuple #[]) ∧ ∃ v', Wtr 86 N w' B v' (vBytes l e m most).1 (vBytes l e m most).2 ∧ Tn w w' B v ∧ Son w v v' := by
  obtain ⟨k0, k1, f0, f1⟩ := h.cells
  have hlt := h.lt
  have hle := h.le
  obtain ⟨b, c, hv, -, -⟩ := h.ow.shape
  obtain ⟨bx, cx, hxx, -⟩ := id hx
  subst hxx
  unfold vBytes
  by_cases he : e = 0
  · subst he
    rw [if_neg (by simp)]
    have hcase : (most < 0 ∧ max most 0 = 0) ∨ (¬ most < 0 ∧ max most 0 = most) := by omega
    have hmost : ∃ mm : Int, max most 0 = mm ∧ ((most < 0 ∧ mm = 0) ∨ (¬ most < 0 ∧ mm = most)) := ⟨_, rfl, hcase⟩
    obtain ⟨mm, hmm, hcase'⟩ := hmost
    rw [hmm]
    by_cases hbig : mm < (m.length : Int)
    · rw [if_pos hbig]
      subst hv
      have HW : Hid (Wtr 86 N (w.setCell ⟨B, 1, none⟩ (.int .i64 3)) B (.slice b l.length c) l 3) := h.err (by decide) 3
      have HT : Hid (Tn w (w.setCell ⟨B, 1, none⟩ (.int .i64 3)) B (.slice b l.length c)) := (Tn.refl w B _).set 1 _
      clear hmm hcase
      rcases hcase' with ⟨hneg, rfl⟩ | ⟨hneg, rfl⟩
      all_goals
        go_enter Try.func37, Try.ntmps37
        go_wp2
        refine bodyPost_ret (results_none rfl _ _ _) rfl ?_
        exact ⟨rfl, _, HW.out, HT.out, Son.refl _ _⟩
    · rw [if_neg hbig]
      clear hmm hcase
      have hnb := num_len_le 9 m.length
      have hlen : (l ++ numB m.length).length = l.length + (numB m.length).length := List.length_append
      have cI := vvInt_any N B v l 0 (m.length : Int) w h (by omega)
      rw [vInt_len l m.length (by omega)] at cI
      simp only at cI
      rcases hcase' with ⟨hneg, rfl⟩ | ⟨hneg, rfl⟩
      all_goals
        go_enter Try.func37, Try.ntmps37
        go_wp2_with fail
        refine cI.mono ?_
        rintro r w1 ⟨rfl, v1, h1, hT1, hS1⟩
        have hx1 := hx.tn hM hT1 hxd
        obtain ⟨b1, c1, hv1, -, -⟩ := h1.ow.shape
        rw [hlen] at hv1
        subst hv1
        have hz1 := hT1.size
        obtain ⟨q0, q1, e0, e1⟩ := h1.cells
        clear k0 k1 f0 f1
        go_wp2_with (at_builtin; refine wpList_append_ow rfl _ _ rfl N M _ _ (l ++ numB m.length) m rfl h1.ow rfl hx1 (by rw [hlen]; unfold numB; omega) (by omega) ?_; intro v2 w2 hO2 hg2 hn2; obtain ⟨b2, c2, hv2, -, -⟩ := hO2.shape; rw [List.length_append, hlen] at hv2; subst hv2; have h2 := (hg2.block B h1.lt (fun e => h1.ow.not_at h1.at0 (by decide) e.symm)).trans h1.at0; have hf2 := frozen_at0 h2; have hc2 := cell_at0 h2)
        go_end0
        have hT2 : Tn w1 w2 B (.slice b1 (l.length + (numB m.length).length) c1) := Tn.of_grown hg2 (fun k e => .inr e)
        refine ⟨rfl, _, Wtr.mk' (e := 0) (by decide) hle h2 hO2, (hT1.trans hS1 hT2).set 0 _, hS1.trans hz1 ?_⟩
        rcases hn2 with hn2 | hn2
        · exact .inr (.inl hn2)
        · exact .inr (.inr ⟨_, hn2, Nat.le_refl _⟩)
  · rw [if_pos he]
    have he' : ((e : Int) != 0) = true := by simp; omega
    go_enter Try.func37, Try.ntmps37
    go_wp2
    refine bodyPost_ret (results_none rfl _ _ _) rfl ?_
    exact ⟨rfl, v, h, Tn.refl _ _ _, Son.refl _ _⟩

set_option maxRecDepth 100000 in
set_option maxHeartbeats 2000000 in
theorem vvDone_any (N B : Nat) (v : Value) (l : List UInt8) (e : Nat) (w : World) (h : Wtr 86 N w B v l e) :
    Calls Try.prog 38 #[.pointer (some ⟨B, 0, none⟩)] w fun r w' => ∃ u, r = .returned (.tuple #[u, .int .i64 (e : Int)]) ∧ Sl w'.heap.size w' u (if e = 0 then l else []) ∧ ∃ n, w' = w.drewN n := by
  obtain ⟨k0, k1, f0, f1⟩ := h.cells
  have hs := h.ow.sl (Nat.le_refl w.heap.size)
  obtain ⟨b, c, rfl, -, -⟩ := h.ow.shape
  by_cases he : e = 0
  · subst he
    rw [if_pos rfl]
    clear h
    go_enter Try.func38, Try.ntmps38
    go_wp2
    go_ret2
    exact ⟨_, rfl, hs, 0, rfl⟩
  · rw [if_neg he]
    have he' : ((e : Int) != 0) = true := by simp; omega
    clear h hs
    go_enter Try.func38, Try.ntmps38
    go_wp2
    go_region
    go_wp2
    go_ret2
    exact ⟨_, rfl, Sl.nil _ _, 1, rfl⟩
end Go.Proofs.Ytfnnbfgfmbiabab

