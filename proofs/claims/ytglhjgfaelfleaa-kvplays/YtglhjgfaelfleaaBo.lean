/-
  A store and the document's side by side.
-/
import Derived.Test.YtglhjgfaelfleaaSa
namespace Go.Proofs.Ytglhjgfaelfleaa
open Go.RowKit
set_option linter.unusedVariables false

/-- The program's store, which is K; the document's, which is K'. -/
structure Bd (w W : World) (N b mp ms d : Nat) (K K' : KV) : Prop where
  up : Up w W b mp ms K
  ds : ∃ vp vs, DS N W d vp vs K'
  lb : b < N ∧ mp < N ∧ ms < N
  lw : w.heap.size ≤ N
  hN : N ≤ W.heap.size
/-- Replies and commands that lie by themselves stay. -/
def KeepC (W W' : World) : Prop := W.heap.size ≤ W'.heap.size ∧ ∀ (i : Nat) (c : Array Value) (t : TypeId) (z : Nat × Nat), (t = 33 ∨ t = 38) → W.heap[i]? = some (.cells c t z) → W'.heap[i]? = some (.cells c t z)
theorem KeepC.below {W W' : World} (h : Below W.heap.size W W') : KeepC W W' := ⟨h.size, fun i c t z _ hi => (h.block i (Array.getElem?_eq_some_iff.1 hi).1).trans hi⟩
theorem KeepC.trans {A B C : World} (h : KeepC A B) (k : KeepC B C) : KeepC A C := ⟨Nat.le_trans h.1 k.1, fun i c t z ht hi => k.2 i c t z ht (h.2 i c t z ht hi)⟩
theorem KeepC.rb {W W' : World} (h : KeepC W W') {r : Nat} {c : Int} {x : Bs} (hr : Rb W r c x) : Rb W' r c x := h.2 r _ _ _ (.inl rfl) hr
theorem KeepC.dc {W W' : World} (h : KeepC W W') {r : Nat} {op cl sq : Int} {ky vl od : Bs} (hr : Dc W r op cl sq ky vl od) : Dc W' r op cl sq ky vl od := h.2 r _ _ _ (.inr rfl) hr
theorem Bd.below {w W W' : World} {N b mp ms d : Nat} {K K' : KV} (h : Bd w W N b mp ms d K K') (hB : Below W.heap.size W W') : Bd w W' N b mp ms d K K' := by
  obtain ⟨vp, vs, hd⟩ := h.ds
  exact ⟨h.up.below hB, ⟨vp, vs, hd.below hB⟩, h.lb, h.lw, Nat.le_trans h.hN hB.size⟩
theorem Bd.do1 {w W : World} {N b mp ms d : Nat} {K K' : KV} (h : Bd w W N b mp ms d K K') (c : Cm) :
    Calls Try.prog 11 #[.pointer (some ⟨b, 0, none⟩), .agg #[.int .i64 c.op, .int .i64 c.cl, .int .i64 c.sq, .string ⟨c.key.toArray⟩, .string ⟨c.val.toArray⟩, .string ⟨c.old.toArray⟩]] W fun e w' => e = .returned (.tuple #[.agg #[.int .i64 (doF K c).2.code, .string ⟨(doF K c).2.val.toArray⟩], .int .i64 (c.ck : Int)]) ∧ Bd w w' N b mp ms d (doF K c).1 K' ∧ KeepC W w' := by
  obtain ⟨vp, vs, hd⟩ := h.ds
  refine (up_do h.up c).mono ?_
  rintro e w' ⟨rfl, hU, hk, -⟩
  exact ⟨rfl, ⟨hU, ⟨vp, vs, hd.kpt hk⟩, h.lb, h.lw, Nat.le_trans h.hN hk.1⟩, hk.1, fun i c t z _ hi => hk.2 i _ (by simp) hi⟩
theorem Bd.do2 {w W : World} {N b mp ms d : Nat} {K : KV} (c : Cm) (h : Bd w W N b mp ms d (doF K c).1 K) :
    Calls Try.prog 12 #[.pointer (some ⟨d, 0, none⟩), .agg #[.int .i64 c.op, .int .i64 c.cl, .int .i64 c.sq, .string ⟨c.key.toArray⟩, .string ⟨c.val.toArray⟩, .string ⟨c.old.toArray⟩]] W fun e w' => e = .returned (.tuple #[.agg #[.int .i64 (doF K c).2.code, .string ⟨(doF K c).2.val.toArray⟩], .int .i64 (c.ck : Int)]) ∧ Bd w w' N b mp ms d (doF K c).1 (doF K c).1 ∧ KeepC W w' := by
  obtain ⟨vp, vs, hd⟩ := h.ds
  refine (rdo_any hd h.hN c h.up.st.risP h.up.st.risS).mono ?_
  rintro e w' ⟨rfl, hds, hO⟩
  have hX : ∀ i, Xd d vp vs i → N ≤ i := by
    intro i hi
    rcases hi with e | e | e
    · have := hd.low; omega
    · exact (hd.rp.lt e).1
    · exact (hd.rs.lt e).1
  refine ⟨rfl, ⟨⟨h.up.st.out hO (fun e => ?_) (fun e => ?_) (fun e => ?_), h.up.bel.trans ⟨hO.os, hO.tape, hO.output, hO.size, fun i hi => hO.block i (by have := h.up.bel.size; omega) (fun e => ?_)⟩, h.up.lm⟩, hds, h.lb, h.lw, Nat.le_trans h.hN hO.size⟩, hO.size, fun i cc t z ht hi => ?_⟩
  · have := hX _ e; have := h.lb.1; omega
  · have := hX _ e; have := h.lb.2.1; omega
  · have := hX _ e; have := h.lb.2.2; omega
  · have := hX _ e; have := h.lw; omega
  · refine (hO.block i (Array.getElem?_eq_some_iff.1 hi).1 (fun e => ?_)).trans hi
    rcases e with e | e | e
    · subst e
      have := hd.hd
      rw [hi] at this
      have ht2 : t = 31 := by cases this; rfl
      rw [ht2] at ht
      revert ht; decide
    · exact hd.rp.apart hi (by rcases ht with rfl | rfl <;> decide) e
    · exact hd.rs.apart hi (by rcases ht with rfl | rfl <;> decide) e
theorem Bd.new {w W1 : World} {b mp ms : Nat} (h : Up w W1 b mp ms ⟨[], []⟩) : Bd w (W1.alloc (.cells #[.slice none 0 0, .slice none 0 0] 31)) W1.heap.size b mp ms W1.heap.size ⟨[], []⟩ ⟨[], []⟩ :=
  ⟨h.alloc _, ⟨_, _, heap_alloc_new W1 _, Ro.nil _ _ _, Ro.nil _ _ _, Nat.le_refl _, List.Pairwise.nil, List.Pairwise.nil, Ok0⟩, h.st.lt, h.bel.size, by simp⟩
theorem Bd.same {w W : World} {N b mp ms d : Nat} {K : KV} (h : Bd w W N b mp ms d K K) :
    Calls Try.prog 16 #[.pointer (some ⟨b, 0, none⟩), .pointer (some ⟨d, 0, none⟩)] W fun e w' => e = .returned (.bool true) ∧ Bd w w' N b mp ms d K K ∧ KeepC W w' := by
  obtain ⟨vp, vs, hd⟩ := h.ds
  refine (sameKv_any h.up.st hd).mono ?_
  rintro e w' ⟨rfl, hB⟩
  exact ⟨rfl, h.below hB, KeepC.below hB⟩
end Go.Proofs.Ytglhjgfaelfleaa
