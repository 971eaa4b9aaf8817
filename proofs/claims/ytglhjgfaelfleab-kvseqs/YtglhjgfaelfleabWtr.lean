/-
  A writer of wire, and the document's: what each call leaves.
-/
import Derived.Test.YtglhjgfaelfleabLent
namespace Go.Proofs.Ytglhjgfaelfleab
open Go.RowKit Go.Shelf

/-- Block B holds a writer (of type t) that has put l (in v, memory of its own), with the error e. -/
structure Wtr (t : TypeId) (N : Nat) (W : World) (B : Nat) (v : Value) (l : List UInt8) (e : Nat) : Prop where
  le : N ≤ B
  at0 : W.heap[B]? = some (.cells #[v, .int .i64 (e : Int)] t (0, 0))
  ow : Ow N W v l

/-- Of what was there only block B and the bytes of v may have turned. -/
structure Tn (w w' : World) (B : Nat) (v : Value) : Prop where
  os : w'.os = w.os
  tape : w'.tape = w.tape
  output : w'.output = w.output
  size : w.heap.size ≤ w'.heap.size
  block : ∀ k, k < w.heap.size → k ≠ B → v.ownBlock ≠ some k → w'.heap[k]? = w.heap[k]?

/-- v' lies in no memory, in v's, or in new memory. -/
def Son (w : World) (v v' : Value) : Prop := v'.ownBlock = none ∨ v'.ownBlock = v.ownBlock ∨ ∃ k, v'.ownBlock = some k ∧ w.heap.size ≤ k

theorem Tn.refl (w : World) (B : Nat) (v : Value) : Tn w w B v := ⟨rfl, rfl, rfl, Nat.le_refl _, fun _ _ _ _ => rfl⟩
theorem Son.refl (w : World) (v : Value) : Son w v v := .inr (.inl rfl)

theorem Tn.of_grown {w w' : World} {B : Nat} {v : Value} {row : Option Nat} (h : w.grownBy w' row) (hr : ∀ k, row = some k → k = B ∨ v.ownBlock = some k) : Tn w w' B v :=
  ⟨h.os, h.tape, h.output, h.size, fun k hk hB hv => h.block k hk (fun e => by rcases hr k e.symm with h | h; exact hB h; exact hv h)⟩

theorem Tn.trans {w w1 w2 : World} {B : Nat} {v v1 : Value} (h : Tn w w1 B v) (hs : Son w v v1) (k : Tn w1 w2 B v1) : Tn w w2 B v :=
  ⟨k.os.trans h.os, k.tape.trans h.tape, k.output.trans h.output, Nat.le_trans h.size k.size, fun j hj hB hv => (k.block j (Nat.lt_of_lt_of_le hj h.size) hB (fun e => by
    rcases hs with hs | hs | ⟨i, hs, hi⟩
    · rw [hs] at e; cases e
    · exact hv (hs ▸ e)
    · rw [hs] at e; cases e; omega)).trans (h.block j hj hB hv)⟩

theorem Son.trans {w w1 : World} {v v1 v2 : Value} (hz : w.heap.size ≤ w1.heap.size) (h : Son w v v1) (k : Son w1 v1 v2) : Son w v v2 := by
  rcases k with k | k | ⟨i, k, hi⟩
  · exact .inl k
  · rcases h with h | h | ⟨j, h, hj⟩
    · exact .inl (k.trans h)
    · exact .inr (.inl (k.trans h))
    · exact .inr (.inr ⟨j, k.trans h, hj⟩)
  · exact .inr (.inr ⟨i, k, by omega⟩)

theorem Wtr.lt {t : TypeId} {N : Nat} {W : World} {B : Nat} {v : Value} {l : List UInt8} {e : Nat} (h : Wtr t N W B v l e) : B < W.heap.size := (Array.getElem?_eq_some_iff.1 h.at0).1

theorem Wtr.cells {t : TypeId} {N : Nat} {W : World} {B : Nat} {v : Value} {l : List UInt8} {e : Nat} (h : Wtr t N W B v l e) :
    W.cell? ⟨B, 0, none⟩ = some v ∧ W.cell? ⟨B, 1, none⟩ = some (.int .i64 (e : Int)) ∧ W.frozen? ⟨B, 0, none⟩ = false ∧ W.frozen? ⟨B, 1, none⟩ = false := by
  have hR := h.at0
  exact ⟨by simp [World.cell?, hR], by simp [World.cell?, hR], by simp [World.frozen?, hR], by simp [World.frozen?, hR]⟩

theorem heap_set {W : World} {B : Nat} {cs : Array Value} {t : TypeId} {z : Nat × Nat} (h : W.heap[B]? = some (.cells cs t z)) (o : Nat) (u : Value) : (W.setCell ⟨B, o, none⟩ u).heap[B]? = some (.cells (cs.setIfInBounds o u) t z) := by
  obtain ⟨hlt, he⟩ := Array.getElem?_eq_some_iff.1 h
  show (W.heap.modify B _)[B]? = _
  rw [Array.getElem?_eq_getElem (by rw [Array.size_modify]; exact hlt), Array.getElem_modify_self, he]
  rfl

/-- A writer lies on where neither its block nor its bytes are turned. -/
theorem Wtr.kept {t : TypeId} {N : Nat} {w w' : World} {B C : Nat} {v u : Value} {l : List UInt8} {e : Nat} (h : Wtr t N w B v l e) (hT : Tn w w' C u) (hBC : B ≠ C) (hBu : u.ownBlock ≠ some B) (hvC : v.ownBlock ≠ some C) (hvu : ∀ k, v.ownBlock = some k → u.ownBlock ≠ some k) : Wtr t N w' B v l e := by
  refine ⟨h.le, (hT.block B h.lt hBC hBu).trans h.at0, ?_⟩
  refine ⟨h.ow.1, ?_⟩
  rcases h.ow.2 with h2 | ⟨g, cap, cur, hv, hg, hh, r⟩
  · exact .inl h2
  · subst hv
    exact .inr ⟨g, cap, cur, rfl, hg, (hT.block g (Array.getElem?_eq_some_iff.1 hh).1 (fun e => hvC (by rw [e]; rfl)) (hvu g rfl)).trans hh, r⟩

theorem Wtr.below {t : TypeId} {N M : Nat} {w w' : World} {B : Nat} {v : Value} {l : List UInt8} {e : Nat} (h : Wtr t N w B v l e) (hB : Below M w w') (hs : w.heap.size ≤ M) : Wtr t N w' B v l e := by
  have hlt := h.lt
  exact ⟨h.le, (hB.block B (by omega)).trans h.at0, h.ow.below hB hs⟩

theorem Wtr.drewN {t : TypeId} {N : Nat} {w : World} {B : Nat} {v : Value} {l : List UInt8} {e : Nat} (h : Wtr t N w B v l e) (n : Nat) : Wtr t N (w.drewN n) B v l e :=
  h.below (M := w.heap.size) ⟨rfl, rfl, rfl, Nat.le_refl _, fun _ _ => rfl⟩ (Nat.le_refl _)

/-- The error is written. -/
theorem Wtr.err {t : TypeId} {N : Nat} {w : World} {B : Nat} {v : Value} {l : List UInt8} {e : Nat} (ht : t ≠ 5) (h : Wtr t N w B v l e) (e' : Nat) : Wtr t N (w.setCell ⟨B, 1, none⟩ (.int .i64 (e' : Int))) B v l e' :=
  ⟨h.le, by rw [heap_set h.at0]; rfl, h.ow.kept (grown_set w B 1 _) (.inr (h.ow.not_at h.at0 ht))⟩

/-- The bytes are written, that lie in memory already. -/
theorem Wtr.put {t : TypeId} {N : Nat} {w : World} {B : Nat} {v v' : Value} {l l' : List UInt8} {e : Nat} (ht : t ≠ 5) (h : Wtr t N w B v l e) (ho : Ow N w v' l') : Wtr t N (w.setCell ⟨B, 0, none⟩ v') B v' l' e :=
  ⟨h.le, by rw [heap_set h.at0]; rfl, ho.kept (grown_set w B 0 _) (.inr (ho.not_at h.at0 ht))⟩

theorem Wtr.mk' {t : TypeId} {N : Nat} {w : World} {B : Nat} {x v' : Value} {l' : List UInt8} {e : Nat} (ht : t ≠ 5) (hle : N ≤ B) (h : w.heap[B]? = some (.cells #[x, .int .i64 (e : Int)] t (0, 0))) (ho : Ow N w v' l') : Wtr t N (w.setCell ⟨B, 0, none⟩ v') B v' l' e :=
  ⟨hle, by rw [heap_set h]; rfl, ho.kept (grown_set w B 0 _) (.inr (ho.not_at h ht))⟩

theorem Son.of {w : World} {v v' : Value} (h : SameOrNew w v v') : Son w v v' := .inr h

theorem Tn.set {w w1 : World} {B : Nat} {v : Value} (h : Tn w w1 B v) (o : Nat) (u : Value) : Tn w (w1.setCell ⟨B, o, none⟩ u) B v :=
  ⟨h.os, h.tape, h.output, Nat.le_trans h.size (by simp [World.setCell]), fun k hk hB hv => (Below.heap_setCell _ _ _ k hB).trans (h.block k hk hB hv)⟩

set_option maxRecDepth 100000 in
set_option maxHeartbeats 400000 in
theorem newWriter_any (w : World) : Calls Try.prog 20 #[] w fun r w' => r = .returned (.pointer (some ⟨w.heap.size, 0, none⟩)) ∧ Wtr 81 w.heap.size w' w.heap.size (.slice none 0 0) [] 0 ∧ Below w.heap.size w w' := by
  go_enter Try.func20, Try.ntmps20
  go_wp2
  go_ret
  exact ⟨rfl, ⟨Nat.le_refl _, World.alloc_heap_new w _, Ow.nil _ _⟩, (Below.refl _ w).alloc (Nat.le_refl _) _⟩

set_option maxRecDepth 100000 in
set_option maxHeartbeats 1000000 in
/-- fail: the error is kept, what was put is dropped. -/
theorem fail_any (N B : Nat) (v : Value) (l : List UInt8) (e e' : Nat) (w : World) (h : Wtr 81 N w B v l e) :
    Calls Try.prog 34 #[.pointer (some ⟨B, 0, none⟩), .int .i64 (e' : Int)] w fun r w' => r = .returned (.tuple #[]) ∧ Wtr 81 N w' B (.slice none 0 0) [] e' ∧ Tn w w' B v := by
  obtain ⟨k0, k1, f0, f1⟩ := h.cells
  have HF : Hid (Wtr 81 N ((w.setCell ⟨B, 1, none⟩ (.int .i64 (e' : Int))).setCell ⟨B, 0, none⟩ (.slice none 0 0)) B (.slice none 0 0) [] e') := (h.err (by decide) e').put (by decide) (Ow.nil _ _)
  have HT : Hid (Tn w ((w.setCell ⟨B, 1, none⟩ (.int .i64 (e' : Int))).setCell ⟨B, 0, none⟩ (.slice none 0 0)) B v) :=
    Tn.of_grown (grown_trans (grown_set w B 1 _) (grown_set _ B 0 _) (fun k e => .inl e)) (fun k e => by cases e; exact .inl rfl)
  obtain ⟨b, c, rfl, -, -⟩ := h.ow.shape
  clear h
  go_enter Try.func34, Try.ntmps34
  go_wp2
  go_end0
  exact ⟨rfl, HF.out, HT.out⟩

/-- What a writer has, and its error, behind a number. -/
def wInt (l : List UInt8) (e : Nat) (n : Int) : List UInt8 × Nat := if e ≠ 0 then (l, e) else if isNumB n then (l ++ numB n.toNat, 0) else ([], 1)

set_option maxRecDepth 100000 in
set_option maxHeartbeats 1000000 in
theorem wwInt_any (N B : Nat) (v : Value) (l : List UInt8) (e : Nat) (n : Int) (w : World) (h : Wtr 81 N w B v l e) (hl : l.length ≤ 1073741824) :
    Calls Try.prog 21 #[.pointer (some ⟨B, 0, none⟩), .int .i64 n] w fun r w' => r = .returned (.tuple #[]) ∧ ∃ v', Wtr 81 N w' B v' (wInt l e n).1 (wInt l e n).2 ∧ Tn w w' B v ∧ Son w v v' := by
  obtain ⟨k0, k1, f0, f1⟩ := h.cells
  have hlt := h.lt
  have hle := h.le
  obtain ⟨b, c, hv, -, -⟩ := h.ow.shape
  unfold wInt
  by_cases he : e = 0
  · subst he
    rw [if_neg (by simp)]
    by_cases hN : isNumB n = true
    · rw [if_pos hN]
      have hrange : 0 ≤ n ∧ n ≤ 4611686018427387904 := by simpa [isNumB] using hN
      obtain ⟨m, rfl⟩ := Int.eq_ofNat_of_zero_le hrange.1
      simp only [Int.toNat_natCast]
      subst hv
      go_enter Try.func21, Try.ntmps21
      go_wp2_with (go_at_call 33; refine (isNumber_any _ _).mono ?_; rintro r w1 ⟨rfl, hw⟩; subst w1)
      refine (appendInt_any N _ l m (by omega) _ (by omega) hl h.ow).mono ?_
      rintro r w1 ⟨v1, rfl, hO1, hg1, hs1⟩
      have hT1 : Tn w w1 B (.slice b l.length c) := Tn.of_grown hg1 (fun k e => .inr e)
      have h1 : w1.heap[B]? = some (.cells #[.slice b l.length c, .int .i64 0] 81 (0, 0)) := (hg1.block B hlt (fun e => h.ow.not_at h.at0 (by decide) e.symm)).trans h.at0
      obtain ⟨b1, c1, rfl, -, -⟩ := hO1.shape
      have hf1 : w1.frozen? ⟨B, 0, none⟩ = false := by simp [World.frozen?, h1]
      have hc1 : w1.cell? ⟨B, 0, none⟩ = some (.slice b l.length c) := by simp [World.cell?, h1]
      have hW := Wtr.mk' (e := 0) (by decide) hle h1 hO1
      have hTT := hT1.set 0 (.slice b1 (l ++ numB m).length c1)
      have hlen : (l ++ numB m).length = l.length + (numB m).length := List.length_append
      rw [hlen] at hW hTT hs1 ⊢
      clear hlen hO1 hg1 hT1
      go_wp2
      go_end0
      exact ⟨rfl, _, hW, hTT, Son.of hs1⟩
    · rw [if_neg hN]
      have hN' : isNumB n = false := by simpa using hN
      clear hN
      subst hv
      go_enter Try.func21, Try.ntmps21
      go_wp2_with (first
        | (go_at_call 33; refine (isNumber_any _ _).mono ?_; rintro r w1 ⟨rfl, hw⟩; subst w1)
        | (go_at_call 34; refine (fail_any N B _ l 0 1 w h).mono ?_; rintro r w1 ⟨rfl, h1, hT1⟩))
      refine bodyPost_ret (results_none rfl _ _ _) rfl ?_
      exact ⟨rfl, _, h1, hT1, .inl rfl⟩
  · rw [if_pos he]
    have he' : ((e : Int) != 0) = true := by simp; omega
    go_enter Try.func21, Try.ntmps21
    go_wp2
    refine bodyPost_ret (results_none rfl _ _ _) rfl ?_
    exact ⟨rfl, v, h, Tn.refl _ _ _, Son.refl _ _⟩
end Go.Proofs.Ytglhjgfaelfleab
