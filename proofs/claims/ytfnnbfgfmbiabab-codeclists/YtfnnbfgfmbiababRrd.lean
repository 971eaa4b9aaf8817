/-
  The document's own reader: what each of its calls answers and leaves.
-/
import Derived.Test.YtfnnbfgfmbiababLent
namespace Go.Proofs.Ytfnnbfgfmbiabab
open Go.RowKit Go.Shelf

/-- Block Q holds the document's reader of the bytes l (which lie in v, below N), at the place a, with the error e. -/
structure Rrd (N : Nat) (W : World) (Q : Nat) (v : Value) (l : List UInt8) (a e : Nat) : Prop where
  le : N ≤ Q
  at0 : W.heap[Q]? = some (.cells #[v, .int .i64 (a : Int), .int .i64 (e : Int)] 135 (0, 0))
  sl : Sl N W v l

theorem Rrd.lt {N : Nat} {W : World} {Q : Nat} {v : Value} {l : List UInt8} {a e : Nat} (h : Rrd N W Q v l a e) : Q < W.heap.size := (Array.getElem?_eq_some_iff.1 h.at0).1

/-- It lies on, where another block is turned. -/
theorem Rrd.kept {N : Nat} {w w' : World} {Q : Nat} {v : Value} {l : List UInt8} {a e : Nat} {row : Option Nat} (h : Rrd N w Q v l a e) (hg : w.grownBy w' row) (hne : row ≠ some Q) (hrow : ∀ k, row = some k → N ≤ k) : Rrd N w' Q v l a e := by
  have hlt := h.lt
  have hle := h.le
  refine ⟨h.le, (hg.block Q hlt (fun e => hne e.symm)).trans h.at0, h.sl.below ⟨hg.os, hg.tape, hg.output, hg.size, fun k hk => hg.block k (by omega) (fun e => by have := hrow k e.symm; omega)⟩⟩

theorem Rrd.below {N B : Nat} {w w' : World} {Q : Nat} {v : Value} {l : List UInt8} {a e : Nat} (h : Rrd N w Q v l a e) (hB : Below B w w') (hs : w.heap.size ≤ B) : Rrd N w' Q v l a e :=
  h.kept (row := none) ⟨hB.os, hB.tape, hB.output, hB.size, fun k hk _ => hB.block k (by omega)⟩ (by simp) (by simp)

theorem Rrd.drewN {N : Nat} {w : World} {Q : Nat} {v : Value} {l : List UInt8} {a e : Nat} (h : Rrd N w Q v l a e) (n : Nat) : Rrd N (w.drewN n) Q v l a e := h.kept (row := none) (grown_drewN w n) (by simp) (by simp)

theorem Rrd.cells {N : Nat} {w : World} {Q : Nat} {v : Value} {l : List UInt8} {a e : Nat} (h : Rrd N w Q v l a e) :
    w.cell? ⟨Q, 0, none⟩ = some v ∧ w.cell? ⟨Q, 1, none⟩ = some (.int .i64 (a : Int)) ∧ w.cell? ⟨Q, 2, none⟩ = some (.int .i64 (e : Int)) ∧ w.frozen? ⟨Q, 1, none⟩ = false ∧ w.frozen? ⟨Q, 2, none⟩ = false := by
  have hR := h.at0
  exact ⟨by simp [World.cell?, hR], by simp [World.cell?, hR], by simp [World.cell?, hR], by simp [World.frozen?, hR], by simp [World.frozen?, hR]⟩

theorem Rrd.set {N : Nat} {w : World} {Q : Nat} {v : Value} {l : List UInt8} {a e : Nat} (h : Rrd N w Q v l a e) (o : Nat) (u : Value) : Sl N (w.setCell ⟨Q, o, none⟩ u) v l := by
  have hle := h.le
  exact h.sl.below ((Below.refl N w).setCell (p := ⟨Q, o, none⟩) hle u)

theorem Rrd.err {N : Nat} {w : World} {Q : Nat} {v : Value} {l : List UInt8} {a e : Nat} (h : Rrd N w Q v l a e) (e' : Nat) : Rrd N (w.setCell ⟨Q, 2, none⟩ (.int .i64 (e' : Int))) Q v l a e' := by
  have hlt := h.lt
  refine ⟨h.le, ?_, h.set _ _⟩
  show (w.heap.modify Q _)[Q]? = _
  rw [Array.getElem?_eq_getElem (by rw [Array.size_modify]; exact hlt), Array.getElem_modify_self, (Array.getElem?_eq_some_iff.1 h.at0).2]
  rfl

theorem Rrd.at' {N : Nat} {w : World} {Q : Nat} {v : Value} {l : List UInt8} {a e : Nat} (h : Rrd N w Q v l a e) (a' : Nat) : Rrd N (w.setCell ⟨Q, 1, none⟩ (.int .i64 (a' : Int))) Q v l a' e := by
  have hlt := h.lt
  refine ⟨h.le, ?_, h.set _ _⟩
  show (w.heap.modify Q _)[Q]? = _
  rw [Array.getElem?_eq_getElem (by rw [Array.size_modify]; exact hlt), Array.getElem_modify_self, (Array.getElem?_eq_some_iff.1 h.at0).2]
  rfl

set_option maxRecDepth 100000 in
set_option maxHeartbeats 1000000 in
/-- The document's Int of a reader. -/
theorem qInt_any (N Q : Nat) (v : Value) (l : List UInt8) (a e : Nat) (w : World) (h : Rrd N w Q v l a e) (hl : l.length ≤ 20000) (ha : a ≤ l.length) :
    Calls Try.prog 81 #[.pointer (some ⟨Q, 0, none⟩)] w fun r w' =>
      r = .returned (.int .i64 ((pk l a e).1 : Int)) ∧ Rrd N w' Q v l (a + (pk l a e).2.1) (pk l a e).2.2 ∧ w.grownBy w' (some Q) := by
  obtain ⟨k0, k1, k2, f1, f2⟩ := h.cells
  obtain ⟨av, c, rfl, -⟩ := id h.sl
  by_cases he : e = 0
  · subst he
    have hpk : pk l a 0 = intAt l a := rfl
    rw [hpk]
    have hbd := intAt_bd l a
    generalize hr : intAt l a = r at *
    have HR : Hid (intAt l a = r) := hr
    obtain ⟨n, s, e'⟩ := r
    obtain ⟨b1, b2, b3, -⟩ := hbd
    simp only at b1 b2 b3 ⊢
    have b4 := b3 ha
    clear hr hpk b3
    have hcall : ∀ nq, Calls Try.prog 104 #[.slice av l.length c, .int .i64 (a : Int)] (w.drewN nq) fun e w' => e = .returned (tup3 (n, s, e')) ∧ w' = w.drewN nq := fun nq => by
      have := refInt_any N _ l (a : Int) (w.drewN nq) (h.drewN nq).sl (by omega)
      rw [HR.out] at this; exact this
    unfold tup3 at hcall
    simp only at hcall
    have HC := hcall
    clear hcall
    go_enter Try.func81, Try.ntmps81
    go_wp2
    go_quiet ((go_at_call 104; exact Calls.quiet_of_same (HC _)))
    have HF : Hid (∀ nq, Rrd N (((w.drewN nq).setCell ⟨Q, 2, none⟩ (.int .i64 (e' : Int))).setCell ⟨Q, 1, none⟩ (.int .i64 ((a : Int) + (s : Int)))) Q (.slice av l.length c) l (a + s) e') := fun nq => by
      have := ((h.drewN nq).err e').at' (a + s)
      simpa using this
    have HG : Hid (∀ nq, w.grownBy (((w.drewN nq).setCell ⟨Q, 2, none⟩ (.int .i64 (e' : Int))).setCell ⟨Q, 1, none⟩ (.int .i64 ((a : Int) + (s : Int)))) (some Q)) := fun nq =>
      grown_trans (grown_trans (grown_trans (grown_refl w _) (grown_drewN w nq) (by simp)) (grown_set _ _ _ _) (fun k e => .inl e)) (grown_set _ _ _ _) (fun k e => .inl e)
    clear HC h
    go_wp2
    go_ret
    exact ⟨rfl, by simpa using HF.out _, by simpa using HG.out _⟩
  · have hpk : pk l a e = (0, 0, e) := by simp [pk, he]
    rw [hpk]
    have he' : ((e : Int) != 0) = true := by simp; omega
    go_enter Try.func81, Try.ntmps81
    go_wp2
    go_ret
    exact ⟨rfl, h, grown_refl w _⟩

set_option maxRecDepth 100000 in
set_option maxHeartbeats 1000000 in
theorem qLeft_any (N Q : Nat) (v : Value) (l : List UInt8) (a e : Nat) (w : World) (h : Rrd N w Q v l a e) (hl : l.length ≤ 20000) (ha : a ≤ l.length) :
    Calls Try.prog 84 #[.pointer (some ⟨Q, 0, none⟩)] w fun r w' => r = .returned (.int .i64 ((l.length : Int) - (a : Int))) ∧ ∃ n, w' = w.drewN n := by
  obtain ⟨k0, k1, k2, f1, f2⟩ := h.cells
  obtain ⟨av, c, rfl, -⟩ := id h.sl
  go_enter Try.func84, Try.ntmps84
  go_wp2
  go_quiet (fail)
  go_wp2
  go_ret
  exact ⟨rfl, _, rfl⟩

set_option maxRecDepth 100000 in
set_option maxHeartbeats 1000000 in
theorem qDone_any (N Q : Nat) (v : Value) (l : List UInt8) (a e : Nat) (w : World) (h : Rrd N w Q v l a e) (hl : l.length ≤ 20000) (ha : a ≤ l.length) :
    Calls Try.prog 42 #[.pointer (some ⟨Q, 0, none⟩)] w fun r w' => r = .returned (.int .i64 (doneE l a e : Int)) ∧ ∃ n, w' = w.drewN n := by
  obtain ⟨k0, k1, k2, f1, f2⟩ := h.cells
  by_cases he : e = 0
  · subst he
    by_cases hlt : a < l.length
    · have HE : Hid (doneE l a 0 = 3) := by show doneE l a 0 = 3; simp [doneE, hlt]
      go_enter Try.func42, Try.ntmps42
      go_wp2_with (go_at_call 84; refine (qLeft_any N Q v l a 0 w h hl ha).mono ?_; rintro r w1 ⟨rfl, n, rfl⟩)
      go_ret
      exact ⟨by rw [HE.out]; rfl, _, rfl⟩
    · have HE : Hid (doneE l a 0 = 0) := by show doneE l a 0 = 0; simp [doneE, hlt]
      go_enter Try.func42, Try.ntmps42
      go_wp2_with (go_at_call 84; refine (qLeft_any N Q v l a 0 w h hl ha).mono ?_; rintro r w1 ⟨rfl, n, rfl⟩)
      go_ret
      exact ⟨by rw [HE.out]; rfl, _, rfl⟩
  · have HE : Hid (doneE l a e = e) := by show doneE l a e = e; simp [doneE, he]
    have he' : ((e : Int) == 0) = false := by simp; omega
    go_enter Try.func42, Try.ntmps42
    go_wp2
    go_ret
    exact ⟨by rw [HE.out]; rfl, 0, rfl⟩
end Go.Proofs.Ytfnnbfgfmbiabab
