/-
  RefM1.
-/
import Derived.Test.YtfnnbfgfmbiabaaJ40
import Derived.Test.YtfnnbfgfmbiabaaJ24
/-
  The document's GetMessage: kind 1.
-/
namespace Go.Proofs.Ytfnnbfgfmbiabaa
open Go.RowKit Go.Shelf

set_option maxRecDepth 100000 in
set_option maxHeartbeats 8000000 in
theorem refGetM1_any (b : List UInt8) (v : Value) (M : Nat) (w : World) (hv : Sl M w v b) (hM : M ≤ w.heap.size) (hb : b.length ≤ 20000) {p0 fr pa ea to pb eb tm pc ec p1 e1 p2 e2 n1 n2 : Nat}
    (H0 : Hid (rdN b (0, 0) = (1, (p0, 0)))) (Ha : Hid (rdN b (p0, 0) = (fr, (pa, ea)))) (Hb : Hid (rdN b (pa, ea) = (to, (pb, eb)))) (Hc : Hid (rdN b (pb, eb) = (tm, (pc, ec)))) (H1 : Hid (rdN b (pc, ec) = (n1, (p1, e1)))) (H2 : Hid (rdN b (p1, e1) = (n2, (p2, e2)))) (E : Nat) (hE : E = if doneE b p2 e2 = 0 then ckM1 (fr : Int) (to : Int) (tm : Int) (n1 : Int) (n2 : Int) 0 0 0 false 0 0 0 0 else doneE b p2 e2) :
    Calls Try.prog 52 #[v] w fun r w' => r = .returned (.tuple #[if E = 0 then .agg #[.int .i64 1, .int .i64 (fr : Int), .int .i64 (to : Int), .int .i64 (tm : Int), .int .i64 (n1 : Int), .int .i64 (n2 : Int), .int .i64 0, .int .i64 0, .int .i64 0, .bool false, .slice none 0 0, .int .i64 0, .int .i64 0, .slice none 0 0] else .agg #[.int .i64 0, .int .i64 0, .int .i64 0, .int .i64 0, .int .i64 0, .int .i64 0, .int .i64 0, .int .i64 0, .int .i64 0, .bool false, .slice none 0 0, .int .i64 0, .int .i64 0, .slice none 0 0], .int .i64 (E : Int)]) ∧ Below w.heap.size w w' := by
  obtain ⟨a, cap, rfl, -⟩ := id hv
  have hB0 : Below w.heap.size w (w.alloc (.cells #[.int .i64 0, .int .i64 0, .int .i64 0, .int .i64 0, .int .i64 0, .int .i64 0, .int .i64 0, .int .i64 0, .int .i64 0, .bool false, .slice none 0 0, .int .i64 0, .int .i64 0, .slice none 0 0] 95)) := (Below.refl _ w).alloc (Nat.le_refl _) _
  have hq := newQ (hv.below (hB0.mono hM)) (by simp; omega) hb
  simp only [World.size_alloc] at hq
  have HR : Hid ((w.alloc (.cells #[.int .i64 0, .int .i64 0, .int .i64 0, .int .i64 0, .int .i64 0, .int .i64 0, .int .i64 0, .int .i64 0, .int .i64 0, .bool false, .slice none 0 0, .int .i64 0, .int .i64 0, .slice none 0 0] 95)).heap[w.heap.size]? = some (.cells #[.int .i64 0, .int .i64 0, .int .i64 0, .int .i64 0, .int .i64 0, .int .i64 0, .int .i64 0, .int .i64 0, .int .i64 0, .bool false, .slice none 0 0, .int .i64 0, .int .i64 0, .slice none 0 0] 95 (0, 0))) := World.alloc_heap_new w _
  have HB0 : Hid (Below w.heap.size w (w.alloc (.cells #[.int .i64 0, .int .i64 0, .int .i64 0, .int .i64 0, .int .i64 0, .int .i64 0, .int .i64 0, .int .i64 0, .int .i64 0, .bool false, .slice none 0 0, .int .i64 0, .int .i64 0, .slice none 0 0] 95))) := hB0
  clear hB0
  have inK : isIn 1 1 7 = true := by decide
  have HCK : Hid (∀ w', Calls Try.prog 50 #[.agg #[.int .i64 1, .int .i64 (fr : Int), .int .i64 (to : Int), .int .i64 (tm : Int), .int .i64 (n1 : Int), .int .i64 (n2 : Int), .int .i64 0, .int .i64 0, .int .i64 0, .bool false, .slice none 0 0, .int .i64 0, .int .i64 0, .slice none 0 0]] w' fun e w'' => e = .returned (.int .i64 (ckM1 (fr : Int) (to : Int) (tm : Int) (n1 : Int) (n2 : Int) 0 0 0 false 0 0 0 0 : Int)) ∧ Below w'.heap.size w' w'') := fun w' => refChkM1_any (fr : Int) (to : Int) (tm : Int) (n1 : Int) (n2 : Int) 0 0 0 false none 0 [] 0 0 none 0 [] w'.heap.size w' (.inl rfl) (Sl.nil _ _) (Nat.le_refl _) (by simp)
  obtain ⟨CK, hCK⟩ : ∃ CK, ckM1 (fr : Int) (to : Int) (tm : Int) (n1 : Int) (n2 : Int) 0 0 0 false 0 0 0 0 = CK := ⟨_, rfl⟩
  rw [hCK] at hE HCK
  clear hCK
  have HE : Hid (E = if doneE b p2 e2 = 0 then CK else doneE b p2 e2) := hE
  clear hE
  go_enter Try.func52, Try.ntmps52
  go_wp2_with fail
  refine (rqIg hq H0).mono ?_
  rintro r w1 ⟨rfl, h1, -⟩
  go_wp2_with (go_at_call 62; refine (refWithin_any _ _ _ _).mono ?_; rintro e w' ⟨rfl, hw⟩; subst w'; simp only [inK])
  have g1 := gm_new h1 #[.int .i64 1, .int .i64 0, .int .i64 0, .int .i64 0, .int .i64 0, .int .i64 0, .int .i64 0, .int .i64 0, .int .i64 0, .bool false, .slice none 0 0, .int .i64 0, .int .i64 0, .slice none 0 0]
  have HLX : Hid (w.heap.size < w1.heap.size) := by have := h1.bel.size; show w.heap.size < w1.heap.size; simp at this; omega
  refine (gmI g1 Ha).mono ?_
  rintro r w2 ⟨rfl, k2⟩
  obtain ⟨⟨q0, q1, q2, q3, q4, q5, q6, q7, q8, q9, q10, q11, q12, q13⟩, f0, f1, f2, f3, f4, f5, f6, f7, f8, f9, f10, f11, f12, f13⟩ := cells14 k2.blk
  have hl2 := k2.lt
  have g2 : Gm _ (w2.setCell ⟨w1.heap.size, 1, none⟩ (.int .i64 (fr : Int))) _ w1.heap.size _ b pa ea #[.int .i64 1, .int .i64 (fr : Int), .int .i64 0, .int .i64 0, .int .i64 0, .int .i64 0, .int .i64 0, .int .i64 0, .int .i64 0, .bool false, .slice none 0 0, .int .i64 0, .int .i64 0, .slice none 0 0] := k2.set 1 (.int .i64 (fr : Int))
  clear g1 k2
  go_wp2_with fail
  refine (gmI g2 Hb).mono ?_
  rintro r w3 ⟨rfl, k3⟩
  obtain ⟨⟨q0, q1, q2, q3, q4, q5, q6, q7, q8, q9, q10, q11, q12, q13⟩, f0, f1, f2, f3, f4, f5, f6, f7, f8, f9, f10, f11, f12, f13⟩ := cells14 k3.blk
  have hl3 := k3.lt
  have g3 : Gm _ (w3.setCell ⟨w1.heap.size, 2, none⟩ (.int .i64 (to : Int))) _ w1.heap.size _ b pb eb #[.int .i64 1, .int .i64 (fr : Int), .int .i64 (to : Int), .int .i64 0, .int .i64 0, .int .i64 0, .int .i64 0, .int .i64 0, .int .i64 0, .bool false, .slice none 0 0, .int .i64 0, .int .i64 0, .slice none 0 0] := k3.set 2 (.int .i64 (to : Int))
  clear g2 k3
  go_wp2_with fail
  refine (gmI g3 Hc).mono ?_
  rintro r w4 ⟨rfl, k4⟩
  obtain ⟨⟨q0, q1, q2, q3, q4, q5, q6, q7, q8, q9, q10, q11, q12, q13⟩, f0, f1, f2, f3, f4, f5, f6, f7, f8, f9, f10, f11, f12, f13⟩ := cells14 k4.blk
  have hl4 := k4.lt
  have g4 : Gm _ (w4.setCell ⟨w1.heap.size, 3, none⟩ (.int .i64 (tm : Int))) _ w1.heap.size _ b pc ec #[.int .i64 1, .int .i64 (fr : Int), .int .i64 (to : Int), .int .i64 (tm : Int), .int .i64 0, .int .i64 0, .int .i64 0, .int .i64 0, .int .i64 0, .bool false, .slice none 0 0, .int .i64 0, .int .i64 0, .slice none 0 0] := k4.set 3 (.int .i64 (tm : Int))
  clear g3 k4
  go_wp2_with fail
  refine (gmI g4 H1).mono ?_
  rintro r w5 ⟨rfl, k5⟩
  obtain ⟨⟨q0, q1, q2, q3, q4, q5, q6, q7, q8, q9, q10, q11, q12, q13⟩, f0, f1, f2, f3, f4, f5, f6, f7, f8, f9, f10, f11, f12, f13⟩ := cells14 k5.blk
  have hl5 := k5.lt
  have g5 : Gm _ (w5.setCell ⟨w1.heap.size, 4, none⟩ (.int .i64 (n1 : Int))) _ w1.heap.size _ b p1 e1 #[.int .i64 1, .int .i64 (fr : Int), .int .i64 (to : Int), .int .i64 (tm : Int), .int .i64 (n1 : Int), .int .i64 0, .int .i64 0, .int .i64 0, .int .i64 0, .bool false, .slice none 0 0, .int .i64 0, .int .i64 0, .slice none 0 0] := k5.set 4 (.int .i64 (n1 : Int))
  clear g4 k5
  go_wp2_with fail
  refine (gmI g5 H2).mono ?_
  rintro r w6 ⟨rfl, k6⟩
  obtain ⟨⟨q0, q1, q2, q3, q4, q5, q6, q7, q8, q9, q10, q11, q12, q13⟩, f0, f1, f2, f3, f4, f5, f6, f7, f8, f9, f10, f11, f12, f13⟩ := cells14 k6.blk
  have hl6 := k6.lt
  have g6 : Gm _ (w6.setCell ⟨w1.heap.size, 5, none⟩ (.int .i64 (n2 : Int))) _ w1.heap.size _ b p2 e2 #[.int .i64 1, .int .i64 (fr : Int), .int .i64 (to : Int), .int .i64 (tm : Int), .int .i64 (n1 : Int), .int .i64 (n2 : Int), .int .i64 0, .int .i64 0, .int .i64 0, .bool false, .slice none 0 0, .int .i64 0, .int .i64 0, .slice none 0 0] := k6.set 5 (.int .i64 (n2 : Int))
  clear g5 k6
  go_wp2_with fail
  have HX : Hid ((w6.setCell ⟨w1.heap.size, 5, none⟩ (.int .i64 (n2 : Int))).heap[w1.heap.size]? = some (.cells #[.int .i64 1, .int .i64 (fr : Int), .int .i64 (to : Int), .int .i64 (tm : Int), .int .i64 (n1 : Int), .int .i64 (n2 : Int), .int .i64 0, .int .i64 0, .int .i64 0, .bool false, .slice none 0 0, .int .i64 0, .int .i64 0, .slice none 0 0] 95 (0, 0))) := g6.blk
  refine (rqDone_any g6.rq).mono ?_
  rintro r w20 ⟨rfl, hB20⟩
  have g20 := g6.mono hB20
  have HR20 : Hid (w20.heap[w.heap.size]? = some (.cells #[.int .i64 0, .int .i64 0, .int .i64 0, .int .i64 0, .int .i64 0, .int .i64 0, .int .i64 0, .int .i64 0, .int .i64 0, .bool false, .slice none 0 0, .int .i64 0, .int .i64 0, .slice none 0 0] 95 (0, 0))) := (g20.rq.bel.block _ (by simp)).trans HR.out
  have HL20 : Hid (w1.heap.size < w20.heap.size) := g20.lt
  have HB20 : Hid (Below w.heap.size w w20) := HB0.out.trans (g20.rq.bel.mono (by simp))
  have HX20 : Hid (w20.heap[w1.heap.size]? = some (.cells #[.int .i64 1, .int .i64 (fr : Int), .int .i64 (to : Int), .int .i64 (tm : Int), .int .i64 (n1 : Int), .int .i64 (n2 : Int), .int .i64 0, .int .i64 0, .int .i64 0, .bool false, .slice none 0 0, .int .i64 0, .int .i64 0, .slice none 0 0] 95 (0, 0))) := g20.blk
  clear g6 g20 hB20 h1 q0 q1 q2 q3 q4 q5 q6 q7 q8 q9 q10 q11 q12 q13 f0 f1 f2 f3 f4 f5 f6 f7 f8 f9 f10 f11 f12 f13
  by_cases he : doneE b p2 e2 = 0
  · have hE := HE.out
    rw [if_pos he] at hE
    rw [← hE] at HCK
    rw [he]
    obtain ⟨⟨q0, q1, q2, q3, q4, q5, q6, q7, q8, q9, q10, q11, q12, q13⟩, -⟩ := cells14 HX20.out
    go_wp2_with fail
    refine (HCK.out w20).mono ?_
    rintro r w21 ⟨rfl, hB21⟩
    have HX21 : Hid (w21.heap[w1.heap.size]? = some (.cells #[.int .i64 1, .int .i64 (fr : Int), .int .i64 (to : Int), .int .i64 (tm : Int), .int .i64 (n1 : Int), .int .i64 (n2 : Int), .int .i64 0, .int .i64 0, .int .i64 0, .bool false, .slice none 0 0, .int .i64 0, .int .i64 0, .slice none 0 0] 95 (0, 0))) := (hB21.block _ HL20.out).trans HX20.out
    have HR21 : Hid (w21.heap[w.heap.size]? = some (.cells #[.int .i64 0, .int .i64 0, .int .i64 0, .int .i64 0, .int .i64 0, .int .i64 0, .int .i64 0, .int .i64 0, .int .i64 0, .bool false, .slice none 0 0, .int .i64 0, .int .i64 0, .slice none 0 0] 95 (0, 0))) := (hB21.block _ (by have := HL20.out; have := HLX.out; omega)).trans HR20.out
    have HF : Hid (Below w.heap.size w w21) := HB20.out.trans (hB21.mono HB20.out.size)
    obtain ⟨⟨q0, q1, q2, q3, q4, q5, q6, q7, q8, q9, q10, q11, q12, q13⟩, -⟩ := cells14 HX21.out
    obtain ⟨⟨r0, r1, r2, r3, r4, r5, r6, r7, r8, r9, r10, r11, r12, r13⟩, f0, f1, f2, f3, f4, f5, f6, f7, f8, f9, f10, f11, f12, f13⟩ := cells14 HR21.out
    have hl21 : w1.heap.size < w21.heap.size := by have := HL20.out; have := hB21.size; omega
    have hl22 : w.heap.size < w21.heap.size := by have := HLX.out; omega
    have hne : w.heap.size ≠ w1.heap.size := by have := HLX.out; omega
    clear hE hB21
    by_cases hEn : E = 0
    · subst hEn
      go_wp2
      refine bodyPost_ret (results_95 rfl _ _ w.heap.size rfl (set14 HR21.out _ _ _ _ _ _ _ _ _ _ _ _ _ _)) rfl ?_
      exact ⟨rfl, belset14 HF.out (by omega) _ _ _ _ _ _ _ _ _ _ _ _ _ _⟩
    · have hke : ((E : Int) != 0) = true := by simp; omega
      go_wp2
      refine bodyPost_ret (results_95 rfl _ _ w.heap.size rfl (set14 HR21.out _ _ _ _ _ _ _ _ _ _ _ _ _ _)) rfl ?_
      exact ⟨by simp, belset14 HF.out (by omega) _ _ _ _ _ _ _ _ _ _ _ _ _ _⟩
  · have hE := HE.out
    rw [if_neg he] at hE
    rw [← hE]
    have hEn : ¬ E = 0 := by omega
    have hke : ((E : Int) == 0) = false := by simp; omega
    have hke2 : ((E : Int) != 0) = true := by simp; omega
    obtain ⟨⟨r0, r1, r2, r3, r4, r5, r6, r7, r8, r9, r10, r11, r12, r13⟩, f0, f1, f2, f3, f4, f5, f6, f7, f8, f9, f10, f11, f12, f13⟩ := cells14 HR20.out
    clear hE
    go_wp2
    refine bodyPost_ret (results_95 rfl _ _ w.heap.size rfl (set14 HR20.out _ _ _ _ _ _ _ _ _ _ _ _ _ _)) rfl ?_
    exact ⟨by simp, belset14 HB20.out (by omega) _ _ _ _ _ _ _ _ _ _ _ _ _ _⟩

end Go.Proofs.Ytfnnbfgfmbiabaa

