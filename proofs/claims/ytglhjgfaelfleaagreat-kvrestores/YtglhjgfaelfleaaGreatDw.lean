/-
  Commands one behind the other, and what they got; two stores side by side.
-/
import Derived.Test.YtglhjgfaelfleaaGreatPq
namespace Go.Proofs.YtglhjgfaelfleaaGreat
open Go.RowKit
set_option linter.unusedVariables false

def encR (r : Rp) : List Value := [.int .i64 r.code, .string ⟨r.val.toArray⟩]
theorem Ro.kpt {α : Type} {R : RK α} {mp ms N : Nat} {W W' : World} {v : Value} {xs : List α} (h : Ro R N W v xs) (hk : Kpt mp ms W W') : Ro R N W' v xs := by
  refine ⟨h.1, ?_⟩
  rcases h.2 with h3 | ⟨g, cap, cur, rfl, hg, hb, r⟩
  · exact .inl h3
  · exact .inr ⟨g, cap, cur, rfl, hg, hk.2 g _ (by simp) hb, r⟩
theorem Ow.kpt {mp ms N : Nat} {W W' : World} {v : Value} {l : Bs} (h : Ow N W v l) (hk : Kpt mp ms W W') : Ow N W' v l := by
  refine ⟨h.1, ?_⟩
  rcases h.2 with h3 | ⟨g, cap, cur, rfl, hg, hb, r⟩
  · exact .inl h3
  · exact .inr ⟨g, cap, cur, rfl, hg, hk.2 g _ (by simp) hb, r⟩
theorem Kpt.below {mp ms : Nat} {W W' : World} (h : Below W.heap.size W W') : Kpt mp ms W W' := ⟨h.size, fun i x _ hi => (h.block i (Array.getElem?_eq_some_iff.1 hi).1).trans hi⟩
theorem Kpt.trans {mp ms mp' ms' : Nat} {A B C : World} (h : Kpt mp ms A B) (k : Kpt mp' ms' B C) : Kpt mp ms A C := ⟨Nat.le_trans h.1 k.1, fun i x hx hi => k.2 i x hx (h.2 i x hx hi)⟩
theorem Cs.kpt {mp ms N : Nat} {W W' : World} {a : Option Addr} {cs : List Cm} {b : Nat} {K : KV} (h : Cs N W a cs) (hO : Out (Mx mp ms) W W') (hN : N ≤ mp ∧ N ≤ ms) (hW : N ≤ W.heap.size) : Cs N W' a cs :=
  h.below ⟨hO.os, hO.tape, hO.output, hO.size, fun i hi => hO.block i (by omega) (fun e => by rcases e with e | e <;> omega)⟩

/-- Two stores, one beside the other. -/
structure Two (w W : World) (b1 p1 s1 : Nat) (K1 : KV) (b2 p2 s2 : Nat) (K2 : KV) : Prop where
  u1 : Up w W b1 p1 s1 K1
  u2 : Up w W b2 p2 s2 K2
  ap : p1 ≠ p2 ∧ p1 ≠ s2 ∧ s1 ≠ p2 ∧ s1 ≠ s2
theorem St.far {W W' : World} {b mp ms p s : Nat} {K K' : KV} {b' : Nat} (h : St W b mp ms K) (h' : St W b' p s K') (hO : Out (Mx p s) W W') (ap : p ≠ mp ∧ p ≠ ms ∧ s ≠ mp ∧ s ≠ ms) : St W' b mp ms K := by
  refine h.out hO (fun e => ?_) (fun e => ?_) (fun e => ?_)
  · obtain ⟨es, cl, hb, _⟩ := h'.hp
    obtain ⟨es', cl', hb', _⟩ := h'.hs
    have := h.hd
    rcases e with rfl | rfl
    · rw [hb] at this; cases this
    · rw [hb'] at this; cases this
  · rcases e with e | e <;> omega
  · rcases e with e | e <;> omega
theorem Two.do1 {w W W' : World} {b1 p1 s1 b2 p2 s2 : Nat} {K1 K2 K1' : KV} (h : Two w W b1 p1 s1 K1 b2 p2 s2 K2) (hU : Up w W' b1 p1 s1 K1') (hO : Out (Mx p1 s1) W W') : Two w W' b1 p1 s1 K1' b2 p2 s2 K2 :=
  ⟨hU, ⟨h.u2.st.far h.u1.st hO h.ap, hU.bel, h.u2.lm⟩, h.ap⟩
theorem Two.do2 {w W W' : World} {b1 p1 s1 b2 p2 s2 : Nat} {K1 K2 K2' : KV} (h : Two w W b1 p1 s1 K1 b2 p2 s2 K2) (hU : Up w W' b2 p2 s2 K2') (hO : Out (Mx p2 s2) W W') : Two w W' b1 p1 s1 K1 b2 p2 s2 K2' :=
  ⟨⟨h.u1.st.far h.u2.st hO ⟨fun e => h.ap.1 e.symm, fun e => h.ap.2.2.1 e.symm, fun e => h.ap.2.1 e.symm, fun e => h.ap.2.2.2 e.symm⟩, hU.bel, h.u1.lm⟩, hU, h.ap⟩
theorem Two.below {w W W' : World} {b1 p1 s1 b2 p2 s2 : Nat} {K1 K2 : KV} (h : Two w W b1 p1 s1 K1 b2 p2 s2 K2) (hB : Below W.heap.size W W') : Two w W' b1 p1 s1 K1 b2 p2 s2 K2 := ⟨h.u1.below hB, h.u2.below hB, h.ap⟩
theorem Two.alloc {w W : World} {b1 p1 s1 b2 p2 s2 : Nat} {K1 K2 : KV} (h : Two w W b1 p1 s1 K1 b2 p2 s2 K2) (o : Obj) : Two w (W.alloc o) b1 p1 s1 K1 b2 p2 s2 K2 := h.below ((Below.refl _ _).alloc (Nat.le_refl _) _)
/-- A second store. -/
theorem two_new {w W : World} {b1 p1 s1 : Nat} {K1 : KV} (h : Up w W b1 p1 s1 K1) : Calls Tryz.prog 16 #[] W fun e W' => ∃ b2 p2 s2, e = .returned (.pointer (some ⟨b2, 0, none⟩)) ∧ Two w W' b1 p1 s1 K1 b2 p2 s2 ⟨[], []⟩ ∧ Below W.heap.size W W' :=
  (new_any W).mono fun e W' ⟨h1, h2, h3, h4⟩ => ⟨_, _, _, h1, ⟨h.below h3, ⟨h2, h.bel.trans (h3.mono h.bel.size), by have := h.bel.size; omega, by have := h.bel.size; omega⟩, by have := h.st.lt; omega⟩, h3⟩
end Go.Proofs.YtglhjgfaelfleaaGreat
