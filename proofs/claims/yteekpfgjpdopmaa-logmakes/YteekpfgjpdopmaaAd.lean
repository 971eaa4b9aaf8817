/-
  Applied.
-/
import Derived.Test.YteekpfgjpdopmaaMv
namespace Go.Proofs.Yteekpfgjpdopmaa
open Go.RowKit
set_option linter.unusedVariables false

/-- What only reads ahead of a turn. -/
theorem LTh.pre {N : Nat} {S : Nat → Prop} {w w1 w' : World} {b : Nat} {P P' : PL} (hT : LTh N S w1 w' b P') (h : Lg N S w b P) (hN : N ≤ w.heap.size) (hB : Below w.heap.size w w1) : LTh N S w w' b P' := by
  have h0 := h.th hN hB
  have hT' : LTh N (grew S w w1) w1 w' b P' := by
    refine ⟨?_, hT.out.mono (fun i hi => .inl hi)⟩
    obtain ⟨⟨v, es, q1, q2, q3, q4, q5⟩, a2, a3, a4, a5⟩ := hT.q
    refine ⟨⟨v, es, q1, q2, q3, fun g hg => (q4 g hg).imp .inl id, fun e he g hg => (q5 e he g hg).imp .inl id⟩, a2, .inl (.inl h.Sb), ?_, ?_⟩
    · rintro j (hj | hj)
      · exact Nat.lt_of_lt_of_le (h0.q.inn j hj) hT.out.size
      · exact hj.2
    · rintro j (hj | hj)
      · exact h0.q.fr j hj
      · have := hB.size; omega
  exact h0.trans hT'
/-- What only reads behind it. -/
theorem LTh.post {N : Nat} {S : Nat → Prop} {w w1 w' : World} {b : Nat} {P : PL} (hT : LTh N S w w1 b P) (hN : N ≤ w.heap.size) (hB : Below w1.heap.size w1 w') : LTh N S w w' b P :=
  hT.trans (hT.q.th (Nat.le_trans hN hT.out.size) hB)


/-- The log behind Applied. -/
def adP (P : PL) (i : Int) : PL := if P.a < i ∧ i ≤ P.g then P.mk' P.h P.s P.c P.g i else P
theorem adP_ok {P : PL} (h : P.Ok) (i : Int) : (adP P i).Ok := by
  unfold adP
  split
  · exact h.mk' (by have := h.ba; omega) (by omega) h.gc h.cl h.gs h.sh h.hl
  · exact h

set_option maxRecDepth 100000 in
set_option maxHeartbeats 4000000 in
/-- Applied. -/
theorem Applied_any {N : Nat} {S : Nat → Prop} {w : World} {b : Nat} {P : PL} (h : Lg N S w b P) (hN : N ≤ w.heap.size) (i : Int) :
    Calls Try.prog 33 #[.pointer (some ⟨b, 0, none⟩), .int .i64 i] w fun e w' => e = .returned (.bool (decide (P.a < i ∧ i ≤ P.g))) ∧ LK N S w w' b (adP P i) := by
  obtain ⟨va, vc, es, hb, -⟩ := h.cells
  have hbw := h.inn _ h.Sb
  obtain ⟨⟨-, -, -, m3, m4, m5, m6, m7⟩, -⟩ := cells8 hb
  have hB1 : Below w.heap.size w (w.alloc (.cells #[.int .i64 P.h, .int .i64 P.s, .int .i64 P.c, .int .i64 P.g, .int .i64 P.a] 55)) := (Below.refl _ w).alloc (Nat.le_refl _) _
  by_cases hc : P.a < i ∧ i ≤ P.g
  · have HB2 : Below w.heap.size w (w.alloc (.cells #[.int .i64 P.h, .int .i64 P.s, .int .i64 P.c, .int .i64 P.g, .int .i64 i] 55)) := (Below.refl _ w).alloc (Nat.le_refl _) _
    have hm := move_any (h.below HB2) (by have := HB2.size; omega) P.h P.s P.c P.g i (by have := adP_ok h.ok i; unfold adP at this; rw [if_pos hc] at this; exact this)
    have e1 : moved P P.h P.s P.c P.g i = decide (P.a < i ∧ i ≤ P.g) := by
      have : (i == P.a) = false := by simp; omega
      unfold moved; simp [this, hc]
    have e2 : adP P i = P.mk' P.h P.s P.c P.g i := by unfold adP; rw [if_pos hc]
    rw [e1] at hm
    rw [e2]
    have hT : Calls _ _ _ _ _ := hm.mono (fun e w' h1 => (⟨h1.1, h1.2.pre HB2⟩ : _ ∧ LK N S w w' b (P.mk' P.h P.s P.c P.g i)))
    generalize decide (P.a < i ∧ i ≤ P.g) = R at *
    obtain ⟨hc1, hc2⟩ := hc
    clear h hb hm e1 e2
    go_enter Try.func33, Try.ntmps33
    go_wp2_with (go_at_call 78; refine hT.mono ?_; rintro r w3 ⟨rfl, hT3⟩)
    go_ret
    exact ⟨rfl, hT3⟩
  · have hm := move_any (h.below hB1) (by have := hB1.size; omega) P.h P.s P.c P.g P.a h.ok
    have e1 : moved P P.h P.s P.c P.g P.a = decide (P.a < i ∧ i ≤ P.g) := by
      rw [decide_eq_false hc]; unfold moved; simp
    have e2 : adP P i = P.mk' P.h P.s P.c P.g P.a := by unfold adP; rw [if_neg hc]; rfl
    rw [e1] at hm
    rw [e2]
    have hT : Calls _ _ _ _ _ := hm.mono (fun e w' h1 => (⟨h1.1, h1.2.pre hB1⟩ : _ ∧ LK N S w w' b (P.mk' P.h P.s P.c P.g P.a)))
    generalize decide (P.a < i ∧ i ≤ P.g) = R at *
    clear h hb hm e1 e2
    by_cases h1 : P.a < i
    · have h2 : ¬ i ≤ P.g := fun h => hc ⟨h1, h⟩
      have h2' : decide (i ≤ P.g) = false := by simpa using h2
      go_enter Try.func33, Try.ntmps33
      go_wp2_with (go_at_call 78; refine hT.mono ?_; rintro r w3 ⟨rfl, hT3⟩)
      go_ret
      exact ⟨rfl, hT3⟩
    · have h1' : decide (P.a < i) = false := by simpa using h1
      go_enter Try.func33, Try.ntmps33
      go_wp2_with (go_at_call 78; refine hT.mono ?_; rintro r w3 ⟨rfl, hT3⟩)
      go_ret
      exact ⟨rfl, hT3⟩
end Go.Proofs.Yteekpfgjpdopmaa
