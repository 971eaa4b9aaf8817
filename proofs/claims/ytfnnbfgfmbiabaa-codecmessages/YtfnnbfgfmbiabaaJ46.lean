/-
  RefM7.
-/
import Derived.Test.YtfnnbfgfmbiabaaJ40
import Derived.Test.YtfnnbfgfmbiabaaJ31
import Derived.Test.YtfnnbfgfmbiabaaJ38
/-
  The document's GetMessage: kind 7.
-/
namespace Go.Proofs.Ytfnnbfgfmbiabaa
open Go.RowKit Go.Shelf

set_option maxRecDepth 100000 in
set_option maxHeartbeats 8000000 in
theorem refGetM7_any (b : List UInt8) (v : Value) (M : Nat) (w : World) (hv : Sl M w v b) (hM : M ≤ w.heap.size) (hb : b.length ≤ 20000) {p0 fr pa ea to pb eb tm pc ec p1 e1 G0 G1 : Nat} {t G2 : List UInt8}
    (H0 : Hid (rdN b (0, 0) = (7, (p0, 0)))) (Ha : Hid (rdN b (p0, 0) = (fr, (pa, ea)))) (Hb : Hid (rdN b (pa, ea) = (to, (pb, eb)))) (Hc : Hid (rdN b (pb, eb) = (tm, (pc, ec)))) (H1 : Hid (rdB b 1048576 (pc, ec) = (t, (p1, e1)))) (hG : (G0, G1, G2) = if e1 ≠ 0 then (0, 0, []) else goSnap t) (E7 E : Nat) (hE7 : E7 = if e1 ≠ 0 then e1 else geSnap t) (hE : E = if E7 ≠ 0 then E7 else if doneE b p1 e1 = 0 then ckM7 (fr : Int) (to : Int) (tm : Int) 0 0 0 0 0 false 0 (G0 : Int) (G1 : Int) G2.length else doneE b p1 e1) :
    Calls Try.prog 52 #[v] w fun r w' => Got7 w fr to tm G0 G1 G2 E r w' ∧ Below w.heap.size w w' := by
  obtain ⟨a, cap, rfl, -⟩ := id hv
  have hB0 : Below w.heap.size w (w.alloc (.cells #[.int .i64 0, .int .i64 0, .int .i64 0, .int .i64 0, .int .i64 0, .int .i64 0, .int .i64 0, .int .i64 0, .int .i64 0, .bool false, .slice none 0 0, .int .i64 0, .int .i64 0, .slice none 0 0] 95)) := (Below.refl _ w).alloc (Nat.le_refl _) _
  have hq := newQ (hv.below (hB0.mono hM)) (by simp; omega) hb
  simp only [World.size_alloc] at hq
  have HR : Hid ((w.alloc (.cells #[.int .i64 0, .int .i64 0, .int .i64 0, .int .i64 0, .int .i64 0, .int .i64 0, .int .i64 0, .int .i64 0, .int .i64 0, .bool false, .slice none 0 0, .int .i64 0, .int .i64 0, .slice none 0 0] 95)).heap[w.heap.size]? = some (.cells #[.int .i64 0, .int .i64 0, .int .i64 0, .int .i64 0, .int .i64 0, .int .i64 0, .int .i64 0, .int .i64 0, .int .i64 0, .bool false, .slice none 0 0, .int .i64 0, .int .i64 0, .slice none 0 0] 95 (0, 0))) := World.alloc_heap_new w _
  have HB0 : Hid (Below w.heap.size w (w.alloc (.cells #[.int .i64 0, .int .i64 0, .int .i64 0, .int .i64 0, .int .i64 0, .int .i64 0, .int .i64 0, .int .i64 0, .int .i64 0, .bool false, .slice none 0 0, .int .i64 0, .int .i64 0, .slice none 0 0] 95))) := hB0
  clear hB0
  have inK : isIn 7 1 7 = true := by decide
  have HTL : Hid (t.length ≤ 20000) := by
    have h3 := H1.out
    simp only [rdB, Prod.mk.injEq] at h3
    obtain ⟨rfl, -, -⟩ := h3
    show (takeAt b pc ec 1048576).1.length ≤ 20000
    unfold takeAt
    split
    · simp
    · split
      · simp
      · split
        · simp
        · simp; omega
  by_cases he1 : e1 = 0
  case neg =>
    have hE0 : E = e1 := by
      rw [hE, hE7, if_pos he1, if_pos he1]
    have HD : Hid (doneE b p1 e1 = e1) := doneE_err _ _ _ he1
    have hke : ((e1 : Int) == 0) = false := by simp; omega
    have hke2 : ((e1 : Int) != 0) = true := by simp; omega
    rw [hE0]
    rw [if_pos he1] at hG
    simp only [Prod.mk.injEq] at hG
    obtain ⟨rfl, rfl, rfl⟩ := hG
    clear hE hE7 hE0
    go_enter Try.func52, Try.ntmps52
    go_wp2_with fail
    refine (rqIg hq H0).mono ?_
    rintro r w1 ⟨rfl, h1, -⟩
    go_wp2_with (go_at_call 62; refine (refWithin_any _ _ _ _).mono ?_; rintro e w' ⟨rfl, hw⟩; subst w'; simp only [inK])
    have g1 := gm_new h1 #[.int .i64 7, .int .i64 0, .int .i64 0, .int .i64 0, .int .i64 0, .int .i64 0, .int .i64 0, .int .i64 0, .int .i64 0, .bool false, .slice none 0 0, .int .i64 0, .int .i64 0, .slice none 0 0]
    have HLX : Hid (w.heap.size < w1.heap.size) := by have := h1.bel.size; show w.heap.size < w1.heap.size; simp at this; omega
    refine (gmI g1 Ha).mono ?_
    rintro r w2 ⟨rfl, k2⟩
    obtain ⟨⟨q0, q1, q2, q3, q4, q5, q6, q7, q8, q9, q10, q11, q12, q13⟩, f0, f1, f2, f3, f4, f5, f6, f7, f8, f9, f10, f11, f12, f13⟩ := cells14 k2.blk
    have hl2 := k2.lt
    have g2 : Gm _ (w2.setCell ⟨w1.heap.size, 1, none⟩ (.int .i64 (fr : Int))) _ w1.heap.size _ b pa ea #[.int .i64 7, .int .i64 (fr : Int), .int .i64 0, .int .i64 0, .int .i64 0, .int .i64 0, .int .i64 0, .int .i64 0, .int .i64 0, .bool false, .slice none 0 0, .int .i64 0, .int .i64 0, .slice none 0 0] := k2.set 1 (.int .i64 (fr : Int))
    clear g1 k2
    go_wp2_with fail
    refine (gmI g2 Hb).mono ?_
    rintro r w3 ⟨rfl, k3⟩
    obtain ⟨⟨q0, q1, q2, q3, q4, q5, q6, q7, q8, q9, q10, q11, q12, q13⟩, f0, f1, f2, f3, f4, f5, f6, f7, f8, f9, f10, f11, f12, f13⟩ := cells14 k3.blk
    have hl3 := k3.lt
    have g3 : Gm _ (w3.setCell ⟨w1.heap.size, 2, none⟩ (.int .i64 (to : Int))) _ w1.heap.size _ b pb eb #[.int .i64 7, .int .i64 (fr : Int), .int .i64 (to : Int), .int .i64 0, .int .i64 0, .int .i64 0, .int .i64 0, .int .i64 0, .int .i64 0, .bool false, .slice none 0 0, .int .i64 0, .int .i64 0, .slice none 0 0] := k3.set 2 (.int .i64 (to : Int))
    clear g2 k3
    go_wp2_with fail
    refine (gmI g3 Hc).mono ?_
    rintro r w4 ⟨rfl, k4⟩
    obtain ⟨⟨q0, q1, q2, q3, q4, q5, q6, q7, q8, q9, q10, q11, q12, q13⟩, f0, f1, f2, f3, f4, f5, f6, f7, f8, f9, f10, f11, f12, f13⟩ := cells14 k4.blk
    have hl4 := k4.lt
    have g4 : Gm _ (w4.setCell ⟨w1.heap.size, 3, none⟩ (.int .i64 (tm : Int))) _ w1.heap.size _ b pc ec #[.int .i64 7, .int .i64 (fr : Int), .int .i64 (to : Int), .int .i64 (tm : Int), .int .i64 0, .int .i64 0, .int .i64 0, .int .i64 0, .int .i64 0, .bool false, .slice none 0 0, .int .i64 0, .int .i64 0, .slice none 0 0] := k4.set 3 (.int .i64 (tm : Int))
    clear g3 k4
    go_wp2_with fail
    refine (rqBO g4.rq H1).mono ?_
    rintro r w5 ⟨u5, rfl, hO5, h5, hg5⟩
    have g5 := g4.turn h5 hg5
    obtain ⟨ta, tc, rfl, -, -⟩ := hO5.shape
    clear hg5 g4
    obtain ⟨c0, c1, c2, d1, d2⟩ := h5.rrd.cells
    go_wp2_with fail
    refine (rqDone_any g5.rq).mono ?_
    rintro r w20 ⟨rfl, hB20⟩
    have g20 := g5.mono hB20
    have HR20 : Hid (w20.heap[w.heap.size]? = some (.cells #[.int .i64 0, .int .i64 0, .int .i64 0, .int .i64 0, .int .i64 0, .int .i64 0, .int .i64 0, .int .i64 0, .int .i64 0, .bool false, .slice none 0 0, .int .i64 0, .int .i64 0, .slice none 0 0] 95 (0, 0))) := (g20.rq.bel.block _ (by simp)).trans HR.out
    have HB20 : Hid (Below w.heap.size w w20) := HB0.out.trans (g20.rq.bel.mono (by simp))
    have hl20 : w.heap.size < w20.heap.size := by have := g20.lt; have := HLX.out; omega
    clear g5 g20 hB20 h1 h5 q0 q1 q2 q3 q4 q5 q6 q7 q8 q9 q10 q11 q12 q13 f0 f1 f2 f3 f4 f5 f6 f7 f8 f9 f10 f11 f12 f13 c0 c1 c2 d1 d2
    rw [HD.out]
    obtain ⟨⟨r0, r1, r2, r3, r4, r5, r6, r7, r8, r9, r10, r11, r12, r13⟩, f0, f1, f2, f3, f4, f5, f6, f7, f8, f9, f10, f11, f12, f13⟩ := cells14 HR20.out
    go_wp2
    refine bodyPost_ret (results_95 rfl _ _ w.heap.size rfl (set14 HR20.out _ _ _ _ _ _ _ _ _ _ _ _ _ _)) rfl ?_
    exact ⟨⟨.slice none 0 0, by simp [he1], Ow.nil _ _⟩, belset14 HB20.out (by omega) _ _ _ _ _ _ _ _ _ _ _ _ _ _⟩
  subst he1
  simp only [ne_eq, not_true, if_false] at hE hE7 hG
  have HGET : Hid (∀ va' vc' M w', Sl M w' (.slice va' t.length vc') t → M ≤ w'.heap.size → Calls Try.prog 32 #[.slice va' t.length vc'] w' fun r w'' => ∃ u, r = .returned (.tuple #[.agg #[.int .i64 (G0 : Int), .int .i64 (G1 : Int), u], .int .i64 (E7 : Int)]) ∧ Ow w'.heap.size w'' u G2 ∧ Below w'.heap.size w' w'') := fun va' vc' M w' hv hM => by
    have := refGetSnapO_any t (.slice va' t.length vc') M w' hv hM HTL.out
    rw [← hE7, ← hG] at this
    exact this
  clear hE7 hG
  have HCK : Hid (∀ ua uc N w', Sl N w' (.slice ua G2.length uc) G2 → N ≤ w'.heap.size → Calls Try.prog 50 #[.agg #[.int .i64 7, .int .i64 (fr : Int), .int .i64 (to : Int), .int .i64 (tm : Int), .int .i64 0, .int .i64 0, .int .i64 0, .int .i64 0, .int .i64 0, .bool false, .slice none 0 0, .int .i64 (G0 : Int), .int .i64 (G1 : Int), .slice ua G2.length uc]] w' fun e w'' => e = .returned (.int .i64 (ckM7 (fr : Int) (to : Int) (tm : Int) 0 0 0 0 0 false 0 (G0 : Int) (G1 : Int) G2.length : Int)) ∧ Below w'.heap.size w' w'') := fun ua uc N w' hS hN => refChkM7_any (fr : Int) (to : Int) (tm : Int) 0 0 0 0 0 false none 0 [] (G0 : Int) (G1 : Int) ua uc G2 N w' (.inl rfl) hS hN (by simp)
  obtain ⟨CK, hCK⟩ : ∃ CK, ckM7 (fr : Int) (to : Int) (tm : Int) 0 0 0 0 0 false 0 (G0 : Int) (G1 : Int) G2.length = CK := ⟨_, rfl⟩
  rw [hCK] at hE HCK
  clear hCK
  have HE : Hid (E = if doneE b p1 E7 = 0 then CK else doneE b p1 E7) := by
    show E = _
    rw [hE]
    by_cases h7 : E7 = 0
    · subst h7; simp
    · rw [if_pos h7, doneE_err _ _ _ h7, if_neg h7]
  clear hE
  go_enter Try.func52, Try.ntmps52
  go_wp2_with fail
  refine (rqIg hq H0).mono ?_
  rintro r w1 ⟨rfl, h1, -⟩
  go_wp2_with (go_at_call 62; refine (refWithin_any _ _ _ _).mono ?_; rintro e w' ⟨rfl, hw⟩; subst w'; simp only [inK])
  have g1 := gm_new h1 #[.int .i64 7, .int .i64 0, .int .i64 0, .int .i64 0, .int .i64 0, .int .i64 0, .int .i64 0, .int .i64 0, .int .i64 0, .bool false, .slice none 0 0, .int .i64 0, .int .i64 0, .slice none 0 0]
  have HLX : Hid (w.heap.size < w1.heap.size) := by have := h1.bel.size; show w.heap.size < w1.heap.size; simp at this; omega
  refine (gmI g1 Ha).mono ?_
  rintro r w2 ⟨rfl, k2⟩
  obtain ⟨⟨q0, q1, q2, q3, q4, q5, q6, q7, q8, q9, q10, q11, q12, q13⟩, f0, f1, f2, f3, f4, f5, f6, f7, f8, f9, f10, f11, f12, f13⟩ := cells14 k2.blk
  have hl2 := k2.lt
  have g2 : Gm _ (w2.setCell ⟨w1.heap.size, 1, none⟩ (.int .i64 (fr : Int))) _ w1.heap.size _ b pa ea #[.int .i64 7, .int .i64 (fr : Int), .int .i64 0, .int .i64 0, .int .i64 0, .int .i64 0, .int .i64 0, .int .i64 0, .int .i64 0, .bool false, .slice none 0 0, .int .i64 0, .int .i64 0, .slice none 0 0] := k2.set 1 (.int .i64 (fr : Int))
  clear g1 k2
  go_wp2_with fail
  refine (gmI g2 Hb).mono ?_
  rintro r w3 ⟨rfl, k3⟩
  obtain ⟨⟨q0, q1, q2, q3, q4, q5, q6, q7, q8, q9, q10, q11, q12, q13⟩, f0, f1, f2, f3, f4, f5, f6, f7, f8, f9, f10, f11, f12, f13⟩ := cells14 k3.blk
  have hl3 := k3.lt
  have g3 : Gm _ (w3.setCell ⟨w1.heap.size, 2, none⟩ (.int .i64 (to : Int))) _ w1.heap.size _ b pb eb #[.int .i64 7, .int .i64 (fr : Int), .int .i64 (to : Int), .int .i64 0, .int .i64 0, .int .i64 0, .int .i64 0, .int .i64 0, .int .i64 0, .bool false, .slice none 0 0, .int .i64 0, .int .i64 0, .slice none 0 0] := k3.set 2 (.int .i64 (to : Int))
  clear g2 k3
  go_wp2_with fail
  refine (gmI g3 Hc).mono ?_
  rintro r w4 ⟨rfl, k4⟩
  obtain ⟨⟨q0, q1, q2, q3, q4, q5, q6, q7, q8, q9, q10, q11, q12, q13⟩, f0, f1, f2, f3, f4, f5, f6, f7, f8, f9, f10, f11, f12, f13⟩ := cells14 k4.blk
  have hl4 := k4.lt
  have g4 : Gm _ (w4.setCell ⟨w1.heap.size, 3, none⟩ (.int .i64 (tm : Int))) _ w1.heap.size _ b pc ec #[.int .i64 7, .int .i64 (fr : Int), .int .i64 (to : Int), .int .i64 (tm : Int), .int .i64 0, .int .i64 0, .int .i64 0, .int .i64 0, .int .i64 0, .bool false, .slice none 0 0, .int .i64 0, .int .i64 0, .slice none 0 0] := k4.set 3 (.int .i64 (tm : Int))
  clear g3 k4
  go_wp2_with fail
  refine (rqBO g4.rq H1).mono ?_
  rintro r w5 ⟨u5, rfl, hO5, h5, hg5⟩
  have g5 := g4.turn h5 hg5
  obtain ⟨ta, tc, rfl, -, -⟩ := hO5.shape
  clear hg5 g4
  obtain ⟨c0, c1, c2, d1, d2⟩ := h5.rrd.cells
  go_wp2_with fail
  refine (HGET.out ta tc w5.heap.size w5 (hO5.sl (Nat.le_refl _)) (Nat.le_refl _)).mono ?_
  rintro r w6 ⟨u6, rfl, hO6, hB6⟩
  obtain ⟨ua, uc, rfl, -, -⟩ := hO6.shape
  have g6 := g5.mono hB6
  clear hO5 h5 c0 c1 c2 d1 d2
  go_wp2_with fail
  have g7 := g6.mono ((Below.refl _ _).alloc (Nat.le_refl _) (.cells #[.int .i64 (G0 : Int), .int .i64 (G1 : Int), .slice ua G2.length uc] 57))
  have HS7 : Hid ((w6.alloc (.cells #[.int .i64 (G0 : Int), .int .i64 (G1 : Int), .slice ua G2.length uc] 57)).heap[w6.heap.size]? = some (.cells #[.int .i64 (G0 : Int), .int .i64 (G1 : Int), .slice ua G2.length uc] 57 (0, 0))) := World.alloc_heap_new w6 _
  refine (refFail_any E7 g7.rq).mono ?_
  rintro r w8 ⟨rfl, h8, hg8⟩
  rw [if_pos rfl] at h8
  have g8 := g7.turn h8 hg8
  have HO8 : Hid (Ow w5.heap.size w8 (.slice ua G2.length uc) G2) := (hO6.alloc _).kept hg8 (by
    cases hva : (Value.slice ua G2.length uc).ownBlock with
    | none => exact .inl rfl
    | some k => exact .inr (fun e => by cases e; have := (World.ownsRow.lt hO6 _ hva).1; have := g5.rq.rrd.lt; omega))
  have hs8 := (hg8.block w6.heap.size (by simp) (by have := g6.rq.rrd.lt; simp; omega)).trans HS7.out
  obtain ⟨⟨s0, s1, s2⟩, -⟩ := cells3 hs8
  have hls : w6.heap.size < w8.heap.size := (Array.getElem?_eq_some_iff.1 hs8).1
  obtain ⟨⟨q0, q1, q2, q3, q4, q5, q6, q7, q8, q9, q10, q11, q12, q13⟩, f0, f1, f2, f3, f4, f5, f6, f7, f8, f9, f10, f11, f12, f13⟩ := cells14 g8.blk
  have hl8 := g8.lt
  have HW5 : Hid (w.heap.size < w5.heap.size) := by have := g5.lt; have := HLX.out; show w.heap.size < w5.heap.size; omega
  have HX5 : Hid (w1.heap.size < w5.heap.size) := g5.lt
  clear g5 g6 g7 hg8 h8 hO6 hB6 hs8
  have g9 : Gm _ (((w8.setCell ⟨w1.heap.size, 11, none⟩ (.int .i64 (G0 : Int))).setCell ⟨w1.heap.size, 12, none⟩ (.int .i64 (G1 : Int))).setCell ⟨w1.heap.size, 13, none⟩ (.slice ua G2.length uc)) _ w1.heap.size _ b p1 E7 #[.int .i64 7, .int .i64 (fr : Int), .int .i64 (to : Int), .int .i64 (tm : Int), .int .i64 0, .int .i64 0, .int .i64 0, .int .i64 0, .int .i64 0, .bool false, .slice none 0 0, .int .i64 (G0 : Int), .int .i64 (G1 : Int), .slice ua G2.length uc] := ((g8.set 11 (.int .i64 (G0 : Int))).set 12 (.int .i64 (G1 : Int))).set 13 (.slice ua G2.length uc)
  have HO9 : Hid (Ow w5.heap.size (((w8.setCell ⟨w1.heap.size, 11, none⟩ (.int .i64 (G0 : Int))).setCell ⟨w1.heap.size, 12, none⟩ (.int .i64 (G1 : Int))).setCell ⟨w1.heap.size, 13, none⟩ (.slice ua G2.length uc)) (.slice ua G2.length uc) G2) := by
    have hx : ∀ w', Ow w5.heap.size w' (.slice ua G2.length uc) G2 → ∀ o u, Ow w5.heap.size (w'.setCell ⟨w1.heap.size, o, none⟩ u) (.slice ua G2.length uc) G2 := fun w' h o u => h.kept (grown_set w' w1.heap.size o u) (.inr (fun e => by have := World.ownsRow.lt h _ e; have := HX5.out; omega))
    exact hx _ (hx _ (hx _ HO8.out _ _) _ _) _ _
  clear g8
  go_wp2_with fail
  refine (rqDone_any g9.rq).mono ?_
  rintro r w20 ⟨rfl, hB20⟩
  have g20 := g9.mono hB20
  have HO20 : Hid (Ow w5.heap.size w20 (.slice ua G2.length uc) G2) := HO9.out.below hB20 (Nat.le_refl _)
  have HR20 : Hid (w20.heap[w.heap.size]? = some (.cells #[.int .i64 0, .int .i64 0, .int .i64 0, .int .i64 0, .int .i64 0, .int .i64 0, .int .i64 0, .int .i64 0, .int .i64 0, .bool false, .slice none 0 0, .int .i64 0, .int .i64 0, .slice none 0 0] 95 (0, 0))) := (g20.rq.bel.block _ (by simp)).trans HR.out
  have HL20 : Hid (w1.heap.size < w20.heap.size) := g20.lt
  have HB20 : Hid (Below w.heap.size w w20) := HB0.out.trans (g20.rq.bel.mono (by simp))
  have HX20 : Hid (w20.heap[w1.heap.size]? = some (.cells #[.int .i64 7, .int .i64 (fr : Int), .int .i64 (to : Int), .int .i64 (tm : Int), .int .i64 0, .int .i64 0, .int .i64 0, .int .i64 0, .int .i64 0, .bool false, .slice none 0 0, .int .i64 (G0 : Int), .int .i64 (G1 : Int), .slice ua G2.length uc] 95 (0, 0))) := g20.blk
  clear g9 g20 hB20 h1 q0 q1 q2 q3 q4 q5 q6 q7 q8 q9 q10 q11 q12 q13 f0 f1 f2 f3 f4 f5 f6 f7 f8 f9 f10 f11 f12 f13
  by_cases he : doneE b p1 E7 = 0
  · have hE := HE.out
    rw [if_pos he] at hE
    rw [← hE] at HCK
    rw [he]
    obtain ⟨⟨q0, q1, q2, q3, q4, q5, q6, q7, q8, q9, q10, q11, q12, q13⟩, -⟩ := cells14 HX20.out
    go_wp2_with fail
    refine (HCK.out ua uc w20.heap.size w20 (HO20.out.sl (Nat.le_refl _)) (Nat.le_refl _)).mono ?_
    rintro r w21 ⟨rfl, hB21⟩
    have HX21 : Hid (w21.heap[w1.heap.size]? = some (.cells #[.int .i64 7, .int .i64 (fr : Int), .int .i64 (to : Int), .int .i64 (tm : Int), .int .i64 0, .int .i64 0, .int .i64 0, .int .i64 0, .int .i64 0, .bool false, .slice none 0 0, .int .i64 (G0 : Int), .int .i64 (G1 : Int), .slice ua G2.length uc] 95 (0, 0))) := (hB21.block _ HL20.out).trans HX20.out
    have HR21 : Hid (w21.heap[w.heap.size]? = some (.cells #[.int .i64 0, .int .i64 0, .int .i64 0, .int .i64 0, .int .i64 0, .int .i64 0, .int .i64 0, .int .i64 0, .int .i64 0, .bool false, .slice none 0 0, .int .i64 0, .int .i64 0, .slice none 0 0] 95 (0, 0))) := (hB21.block _ (by have := HL20.out; have := HLX.out; omega)).trans HR20.out
    have HF : Hid (Below w.heap.size w w21) := HB20.out.trans (hB21.mono HB20.out.size)
    obtain ⟨⟨q0, q1, q2, q3, q4, q5, q6, q7, q8, q9, q10, q11, q12, q13⟩, -⟩ := cells14 HX21.out
    obtain ⟨⟨r0, r1, r2, r3, r4, r5, r6, r7, r8, r9, r10, r11, r12, r13⟩, f0, f1, f2, f3, f4, f5, f6, f7, f8, f9, f10, f11, f12, f13⟩ := cells14 HR21.out
    have hl21 : w1.heap.size < w21.heap.size := by have := HL20.out; have := hB21.size; omega
    have hl22 : w.heap.size < w21.heap.size := by have := HLX.out; omega
    have hne : w.heap.size ≠ w1.heap.size := by have := HLX.out; omega
    clear hE
    by_cases hEn : E = 0
    · subst hEn
      go_wp2
      refine bodyPost_ret (results_95 rfl _ _ w.heap.size rfl (set14 HR21.out _ _ _ _ _ _ _ _ _ _ _ _ _ _)) rfl ?_
      refine ⟨⟨.slice ua G2.length uc, rfl, ?_⟩, belset14 HF.out (by omega) _ _ _ _ _ _ _ _ _ _ _ _ _ _⟩
      exact ((HO20.out.below hB21 (Nat.le_refl _)).kept (grownset14 w21 w.heap.size _ _ _ _ _ _ _ _ _ _ _ _ _ _) (.inr (fun e => by have := World.ownsRow.lt HO20.out _ e; have := HW5.out; omega))).base (by have := HW5.out; omega)
    · have hke : ((E : Int) != 0) = true := by simp; omega
      go_wp2
      refine bodyPost_ret (results_95 rfl _ _ w.heap.size rfl (set14 HR21.out _ _ _ _ _ _ _ _ _ _ _ _ _ _)) rfl ?_
      refine ⟨⟨.slice ua G2.length uc, by simp [hEn], ?_⟩, belset14 HF.out (by omega) _ _ _ _ _ _ _ _ _ _ _ _ _ _⟩
      exact ((HO20.out.below hB21 (Nat.le_refl _)).kept (grownset14 w21 w.heap.size _ _ _ _ _ _ _ _ _ _ _ _ _ _) (.inr (fun e => by have := World.ownsRow.lt HO20.out _ e; have := HW5.out; omega))).base (by have := HW5.out; omega)
  · have hE := HE.out
    rw [if_neg he] at hE
    rw [← hE]
    have hEn : ¬ E = 0 := by omega
    have hke : ((E : Int) == 0) = false := by simp; omega
    have hke2 : ((E : Int) != 0) = true := by simp; omega
    obtain ⟨⟨r0, r1, r2, r3, r4, r5, r6, r7, r8, r9, r10, r11, r12, r13⟩, f0, f1, f2, f3, f4, f5, f6, f7, f8, f9, f10, f11, f12, f13⟩ := cells14 HR20.out
    have hl20 : w.heap.size < w20.heap.size := by have := HL20.out; have := HLX.out; omega
    clear hE
    go_wp2
    refine bodyPost_ret (results_95 rfl _ _ w.heap.size rfl (set14 HR20.out _ _ _ _ _ _ _ _ _ _ _ _ _ _)) rfl ?_
    refine ⟨⟨.slice ua G2.length uc, by simp [hEn], ?_⟩, belset14 HB20.out (by omega) _ _ _ _ _ _ _ _ _ _ _ _ _ _⟩
    exact (HO20.out.kept (grownset14 w20 w.heap.size _ _ _ _ _ _ _ _ _ _ _ _ _ _) (.inr (fun e => by have := World.ownsRow.lt HO20.out _ e; have := HW5.out; omega))).base (by have := HW5.out; omega)

end Go.Proofs.Ytfnnbfgfmbiabaa

