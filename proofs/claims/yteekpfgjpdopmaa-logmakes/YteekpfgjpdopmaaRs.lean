/-
  Restore.
-/
import Derived.Test.YteekpfgjpdopmaaSt
namespace Go.Proofs.Yteekpfgjpdopmaa
open Go.RowKit
set_option linter.unusedVariables false

/-- May it be restored? -/
def rsY (P : PL) (i t : Int) : Bool := isPl i t && decide (P.c < i)
def rsP (P : PL) (i t : Int) : PL := if rsY P i t then ⟨i, t, [], i, i, i, i, i⟩ else P
theorem rs_ok {i t : Int} (h : isPl i t = true) : (⟨i, t, [], i, i, i, i, i⟩ : PL).Ok := by
  unfold isPl at h
  simp only [Bool.and_eq_true, decide_eq_true_eq] at h
  obtain ⟨⟨⟨h1, h2⟩, h3⟩, h4⟩ := h
  refine ⟨.inr ⟨h1, h2, h3, h4⟩, by simp, by simp, by simp, by simp, Int.le_refl _, Int.le_refl _, Int.le_refl _, ?_, Int.le_refl _, Int.le_refl _, ?_⟩
  · simp [PL.li]
  · simp [PL.li]

set_option maxRecDepth 100000 in
set_option maxHeartbeats 4000000 in
/-- Restore. -/
theorem Restore_any {N : Nat} {S : Nat → Prop} {w : World} {b : Nat} {P : PL} (h : Lg N S w b P) (hN : N ≤ w.heap.size) (i t : Int) :
    Calls Try.prog 35 #[.pointer (some ⟨b, 0, none⟩), .int .i64 i, .int .i64 t] w fun e w' => e = .returned (.int .i64 (if rsY P i t then 0 else 1)) ∧ LTh N S w w' b (rsP P i t) := by
  obtain ⟨va, vc, es, hb, -⟩ := h.cells
  have hbw := h.inn _ h.Sb
  obtain ⟨W1, hW1⟩ : ∃ W1, w.alloc (.cells #[.int .i64 i, .int .i64 t] 76) = W1 := ⟨_, rfl⟩
  have HW1 : Hid (w.alloc (.cells #[.int .i64 i, .int .i64 t] 76) = W1) := hW1
  have HB1 : Hid (Below w.heap.size w W1) := by show Below _ _ _; rw [← hW1]; exact (Below.refl _ w).alloc (Nat.le_refl _) _
  have HZ1 : Hid (w.heap.size < W1.heap.size) := by show _ < _; rw [← hW1]; simp
  have HX1 : Hid (∀ w2, Below W1.heap.size W1 w2 → w2.cell? ⟨w.heap.size, 0, none⟩ = some (.int .i64 i) ∧ w2.cell? ⟨w.heap.size, 1, none⟩ = some (.int .i64 t)) := fun w2 h2 => by
    have hx : w2.heap[w.heap.size]? = some (.cells #[.int .i64 i, .int .i64 t] 76 (0, 0)) := (h2.block _ HZ1.out).trans (by rw [← hW1]; exact heap_alloc_new w _)
    refine ⟨?_, ?_⟩
    all_goals (simp only [World.cell?, hx]; rfl)
  have HCB : Hid (∀ w2, Below w.heap.size w w2 → w2.heap[b]? = some (.cells #[.int .i64 P.bi, .int .i64 P.bt, .slice va P.E.length vc, .int .i64 P.h, .int .i64 P.s, .int .i64 P.c, .int .i64 P.g, .int .i64 P.a] 79 (0, 0))) := fun w2 h2 => (h2.block b hbw).trans hb
  have HNO : Hid (∀ w2, Below w.heap.size w w2 → LTh N S w w2 b P) := fun w2 h2 => h.th hN h2
  have HYES : Hid (isPl i t = true → ∀ w2, Below w.heap.size w w2 → Calls Try.prog 78 #[.pointer (some ⟨b, 0, none⟩), .agg #[.int .i64 i, .int .i64 i, .int .i64 i, .int .i64 i, .int .i64 i]] (((w2.setCell ⟨b, 0, none⟩ (.int .i64 i)).setCell ⟨b, 1, none⟩ (.int .i64 t)).setCell ⟨b, 2, none⟩ (.slice none 0 0)) fun e w' => (∃ q, e = .returned (.bool q)) ∧ LTh N S w w' b ⟨i, t, [], i, i, i, i, i⟩) := fun hp w2 h2 => by
    have hb2 := HCB.out w2 h2
    have hO : Out S w2 (((w2.setCell ⟨b, 0, none⟩ (.int .i64 i)).setCell ⟨b, 1, none⟩ (.int .i64 t)).setCell ⟨b, 2, none⟩ (.slice none 0 0)) := (((Out.refl S w2).put h.Sb).put h.Sb).put h.Sb
    have hO2 : Out S w (((w2.setCell ⟨b, 0, none⟩ (.int .i64 i)).setCell ⟨b, 1, none⟩ (.int .i64 t)).setCell ⟨b, 2, none⟩ (.slice none 0 0)) := (Out.of_below h2).trans hO (fun i hi _ => hi)
    have hLm : Lm N S (((w2.setCell ⟨b, 0, none⟩ (.int .i64 i)).setCell ⟨b, 1, none⟩ (.int .i64 t)).setCell ⟨b, 2, none⟩ (.slice none 0 0)) b ⟨i, t, [], P.h, P.s, P.c, P.g, P.a⟩ :=
      ⟨⟨.slice none 0 0, [], by rw [heap_set (heap_set (heap_set hb2 0 _) 1 _) 2 _]; rfl, EntsOw.nil _ _, rfl, by simp [Value.ownBlock], by simp⟩, h.Sb, fun i hi => Nat.lt_of_lt_of_le (h.inn i hi) hO2.size, h.fr⟩
    refine (move_raw hLm (Nat.le_trans hN hO2.size) i i i i i (rs_ok hp)).mono ?_
    rintro e w' ⟨rfl, hK⟩
    have hK2 : LK N S w w' b ⟨i, t, [], i, i, i, i, i⟩ := ⟨hK.q, hO2.trans hK.out (fun i hi _ => hi)⟩
    exact ⟨⟨_, rfl⟩, hK2.th hN⟩
  have HPL : Hid (∀ w1, Calls Try.prog 79 #[.agg #[.int .i64 i, .int .i64 t]] w1 fun e w' => e = .returned (.bool (isPl i t)) ∧ Below w1.heap.size w1 w') := fun w1 => isPlace_any i t w1
  clear h hb hW1
  unfold rsP rsY
  cases hpl : isPl i t with
  | false =>
    rw [hpl] at HPL
    simp only [Bool.false_and, Bool.false_eq_true, if_false]
    clear HYES
    go_enter Try.func35, Try.ntmps35
    go_wp2_with fail
    rw [HW1.out]
    refine (HPL.out W1).mono ?_
    rintro r w2 ⟨rfl, hB2⟩
    have HB2 : Hid (Below w.heap.size w w2) := HB1.out.trans (hB2.mono HB1.out.size)
    clear hB2
    go_wp2
    go_ret
    exact ⟨rfl, HNO.out w2 HB2.out⟩
  | true =>
    rw [hpl] at HPL
    have HMV := HYES.out hpl
    have HMV' : Hid (∀ w2, Below w.heap.size w w2 → Calls _ _ _ _ _) := HMV
    simp only [Bool.true_and]
    clear HYES HMV
    by_cases hc : P.c < i
    · rw [decide_eq_true hc]
      simp only [if_true]
      generalize P.c = c0 at *
      go_enter Try.func35, Try.ntmps35
      go_wp2_with fail
      rw [HW1.out]
      refine (HPL.out W1).mono ?_
      rintro r w2 ⟨rfl, hB2⟩
      have HB2 : Hid (Below w.heap.size w w2) := HB1.out.trans (hB2.mono HB1.out.size)
      obtain ⟨x0, x1⟩ := HX1.out w2 hB2
      obtain ⟨⟨m0, m1, m2, m3, m4, m5, m6, m7⟩, mf⟩ := cells8 (HCB.out w2 HB2.out)
      have hm := HMV'.out w2 HB2.out
      have hbz : b ≠ w.heap.size := by omega
      clear hB2
      go_wp2_with (go_at_call 78; refine hm.mono ?_; rintro r w5 ⟨⟨qq, rfl⟩, q1⟩)
      go_ret
      exact ⟨rfl, q1⟩
    · rw [decide_eq_false hc]
      simp only [Bool.false_eq_true, if_false]
      have hc' : i ≤ P.c := by omega
      generalize P.c = c0 at *
      go_enter Try.func35, Try.ntmps35
      go_wp2_with fail
      rw [HW1.out]
      refine (HPL.out W1).mono ?_
      rintro r w2 ⟨rfl, hB2⟩
      have HB2 : Hid (Below w.heap.size w w2) := HB1.out.trans (hB2.mono HB1.out.size)
      obtain ⟨⟨-, -, -, -, -, m5, -, -⟩, mf⟩ := cells8 (HCB.out w2 HB2.out)
      clear hB2
      go_wp2
      go_ret
      exact ⟨rfl, HNO.out w2 HB2.out⟩
end Go.Proofs.Yteekpfgjpdopmaa
