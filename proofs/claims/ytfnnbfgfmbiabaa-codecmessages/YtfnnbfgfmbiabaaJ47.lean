/-
  RefM3.
-/
import Derived.Test.YtfnnbfgfmbiabaaJ40
import Derived.Test.YtfnnbfgfmbiabaaJ28
import Derived.Test.YtfnnbfgfmbiabaaJ35
/-
  The document's GetMessage: kind 3.
-/
namespace Go.Proofs.Ytfnnbfgfmbiabaa
open Go.RowKit Go.Shelf

theorem rdEs_len (l : List UInt8) (s : Int) : ∀ (n : Nat) (st : Nat × Nat), (rdEs l s n st).2.1.length ≤ n := by
  intro n
  induction n with
  | zero => intro st; simp [rdEs]
  | succ n ih =>
    intro st
    simp only [rdEs]
    split
    · simp
    · split
      · simp
      · have := ih (rdB l s st).2
        simp; omega

set_option maxRecDepth 100000 in
set_option maxHeartbeats 8000000 in
theorem refGetM3_any (b : List UInt8) (v : Value) (M : Nat) (w : World) (hv : Sl M w v b) (hM : M ≤ w.heap.size) (hb : b.length ≤ 20000) {p0 fr pa ea to pb eb tm pc ec p1 e1 p2 e2 p3 e3 p4 e4 n1 n2 n3 n4 : Nat}
    (H0 : Hid (rdN b (0, 0) = (3, (p0, 0)))) (Ha : Hid (rdN b (p0, 0) = (fr, (pa, ea)))) (Hb : Hid (rdN b (pa, ea) = (to, (pb, eb)))) (Hc : Hid (rdN b (pb, eb) = (tm, (pc, ec)))) (H1 : Hid (rdN b (pc, ec) = (n1, (p1, e1)))) (H2 : Hid (rdN b (p1, e1) = (n2, (p2, e2)))) (H3 : Hid (rdN b (p2, e2) = (n3, (p3, e3)))) (H4 : Hid (rdN b (p3, e3) = (n4, (p4, e4)))) (E3 E : Nat) (hE3 : E3 = (if e4 ≠ 0 then e4 else if (64 : Int) < (n4 : Int) then 3 else (rdEs b 8192 n4 (p4, e4)).1 : Nat))
    (hE : E = if E3 ≠ 0 then E3 else if doneE b (rdEs b 8192 n4 (p4, e4)).2.2.1 (rdEs b 8192 n4 (p4, e4)).2.2.2 = 0 then ckM3 (fr : Int) (to : Int) (tm : Int) (n1 : Int) (n2 : Int) (n3 : Int) 0 0 false (entsOf (rdEs b 8192 n4 (p4, e4)).2.1) 0 0 0 else doneE b (rdEs b 8192 n4 (p4, e4)).2.2.1 (rdEs b 8192 n4 (p4, e4)).2.2.2) :
    Calls Try.prog 52 #[v] w fun r w' => Got3 w fr to tm n1 n2 n3 (rdEs b 8192 n4 (p4, e4)).2.1 E r w' ∧ Below w.heap.size w w' := by
  obtain ⟨a, cap, rfl, -⟩ := id hv
  have hB0 : Below w.heap.size w (w.alloc (.cells #[.int .i64 0, .int .i64 0, .int .i64 0, .int .i64 0, .int .i64 0, .int .i64 0, .int .i64 0, .int .i64 0, .int .i64 0, .bool false, .slice none 0 0, .int .i64 0, .int .i64 0, .slice none 0 0] 95)) := (Below.refl _ w).alloc (Nat.le_refl _) _
  have hq := newQ (hv.below (hB0.mono hM)) (by simp; omega) hb
  simp only [World.size_alloc] at hq
  have HR : Hid ((w.alloc (.cells #[.int .i64 0, .int .i64 0, .int .i64 0, .int .i64 0, .int .i64 0, .int .i64 0, .int .i64 0, .int .i64 0, .int .i64 0, .bool false, .slice none 0 0, .int .i64 0, .int .i64 0, .slice none 0 0] 95)).heap[w.heap.size]? = some (.cells #[.int .i64 0, .int .i64 0, .int .i64 0, .int .i64 0, .int .i64 0, .int .i64 0, .int .i64 0, .int .i64 0, .int .i64 0, .bool false, .slice none 0 0, .int .i64 0, .int .i64 0, .slice none 0 0] 95 (0, 0))) := World.alloc_heap_new w _
  have HB0 : Hid (Below w.heap.size w (w.alloc (.cells #[.int .i64 0, .int .i64 0, .int .i64 0, .int .i64 0, .int .i64 0, .int .i64 0, .int .i64 0, .int .i64 0, .int .i64 0, .bool false, .slice none 0 0, .int .i64 0, .int .i64 0, .slice none 0 0] 95))) := hB0
  clear hB0
  have inK : isIn 3 1 7 = true := by decide
  have HCK0 : Hid (∀ va vc es N w', EntsAt N w' va es → N ≤ w'.heap.size → es.length ≤ 1000000 → es.map Ent.says = saysN (rdEs b 8192 n4 (p4, e4)).2.1 → Calls Try.prog 50 #[.agg #[.int .i64 3, .int .i64 (fr : Int), .int .i64 (to : Int), .int .i64 (tm : Int), .int .i64 (n1 : Int), .int .i64 (n2 : Int), .int .i64 (n3 : Int), .int .i64 0, .int .i64 0, .bool false, .slice va es.length vc, .int .i64 0, .int .i64 0, .slice none 0 0]] w' fun e w'' => e = .returned (.int .i64 (ckM3 (fr : Int) (to : Int) (tm : Int) (n1 : Int) (n2 : Int) (n3 : Int) 0 0 false (entsOf (rdEs b 8192 n4 (p4, e4)).2.1) 0 0 0 : Int)) ∧ Below w'.heap.size w' w'') := fun va vc es N w' hA hN hz hs => by
    rw [ckM3_says (es := entsOf (rdEs b 8192 n4 (p4, e4)).2.1) (fs := es) ((entsOf_says _).trans hs.symm)]
    exact refChkM3_any (fr : Int) (to : Int) (tm : Int) (n1 : Int) (n2 : Int) (n3 : Int) 0 0 false va vc es 0 0 none 0 [] N w' hA (Sl.nil _ _) hN hz
  have HLL : Hid (∀ es : List Ent, es.map Ent.says = saysN (rdEs b 8192 n4 (p4, e4)).2.1 → es.length ≤ n4) := fun es hs => by
    have := congrArg List.length hs
    simp [saysN] at this
    rw [this]; exact rdEs_len _ _ _ _
  obtain ⟨CK, hCK⟩ : ∃ CK, ckM3 (fr : Int) (to : Int) (tm : Int) (n1 : Int) (n2 : Int) (n3 : Int) 0 0 false (entsOf (rdEs b 8192 n4 (p4, e4)).2.1) 0 0 0 = CK := ⟨_, rfl⟩
  rw [hCK] at hE HCK0
  clear hCK
  have H64 : Hid (E3 = 0 → n4 ≤ 64) := fun h => by
    rw [hE3] at h
    by_cases h4 : e4 = 0
    · rw [if_neg (by simp [h4])] at h
      by_cases h5 : (64 : Int) < (n4 : Int)
      · rw [if_pos h5] at h; simp at h
      · omega
    · rw [if_pos h4] at h; exact absurd h h4
  have re := fun (w0 w : World) (Q : Nat) (v : Value) (h : Rq w0 w Q v b p3 e3) => refEntries_any h H4 E3 hE3
  clear hE3
  obtain ⟨XE, hXE⟩ : ∃ XE, rdEs b 8192 n4 (p4, e4) = XE := ⟨_, rfl⟩
  rw [hXE] at hE HCK0 HLL ⊢
  rw [hXE] at re
  clear hXE
  have HRE : Hid (∀ (w0 w : World) (Q : Nat) (v : Value), Rq w0 w Q v b p3 e3 → Calls Try.prog 99 #[.pointer (some ⟨Q, 0, none⟩)] w fun r w' => GotEs w0 w Q v b E3 XE r w') := re
  clear re
  have HE0 : Hid (E = if E3 ≠ 0 then E3 else if doneE b XE.2.2.1 XE.2.2.2 = 0 then CK else doneE b XE.2.2.1 XE.2.2.2) := hE
  clear hE
  go_enter Try.func52, Try.ntmps52
  go_wp2_with fail
  refine (rqIg hq H0).mono ?_
  rintro r w1 ⟨rfl, h1, -⟩
  go_wp2_with (go_at_call 62; refine (refWithin_any _ _ _ _).mono ?_; rintro e w' ⟨rfl, hw⟩; subst w'; simp only [inK])
  have g1 := gm_new h1 #[.int .i64 3, .int .i64 0, .int .i64 0, .int .i64 0, .int .i64 0, .int .i64 0, .int .i64 0, .int .i64 0, .int .i64 0, .bool false, .slice none 0 0, .int .i64 0, .int .i64 0, .slice none 0 0]
  have HLX : Hid (w.heap.size < w1.heap.size) := by have := h1.bel.size; show w.heap.size < w1.heap.size; simp at this; omega
  refine (gmI g1 Ha).mono ?_
  rintro r w2 ⟨rfl, k2⟩
  obtain ⟨⟨q0, q1, q2, q3, q4, q5, q6, q7, q8, q9, q10, q11, q12, q13⟩, f0, f1, f2, f3, f4, f5, f6, f7, f8, f9, f10, f11, f12, f13⟩ := cells14 k2.blk
  have hl2 := k2.lt
  have g2 : Gm _ (w2.setCell ⟨w1.heap.size, 1, none⟩ (.int .i64 (fr : Int))) _ w1.heap.size _ b pa ea #[.int .i64 3, .int .i64 (fr : Int), .int .i64 0, .int .i64 0, .int .i64 0, .int .i64 0, .int .i64 0, .int .i64 0, .int .i64 0, .bool false, .slice none 0 0, .int .i64 0, .int .i64 0, .slice none 0 0] := k2.set 1 (.int .i64 (fr : Int))
  clear g1 k2
  go_wp2_with fail
  refine (gmI g2 Hb).mono ?_
  rintro r w3 ⟨rfl, k3⟩
  obtain ⟨⟨q0, q1, q2, q3, q4, q5, q6, q7, q8, q9, q10, q11, q12, q13⟩, f0, f1, f2, f3, f4, f5, f6, f7, f8, f9, f10, f11, f12, f13⟩ := cells14 k3.blk
  have hl3 := k3.lt
  have g3 : Gm _ (w3.setCell ⟨w1.heap.size, 2, none⟩ (.int .i64 (to : Int))) _ w1.heap.size _ b pb eb #[.int .i64 3, .int .i64 (fr : Int), .int .i64 (to : Int), .int .i64 0, .int .i64 0, .int .i64 0, .int .i64 0, .int .i64 0, .int .i64 0, .bool false, .slice none 0 0, .int .i64 0, .int .i64 0, .slice none 0 0] := k3.set 2 (.int .i64 (to : Int))
  clear g2 k3
  go_wp2_with fail
  refine (gmI g3 Hc).mono ?_
  rintro r w4 ⟨rfl, k4⟩
  obtain ⟨⟨q0, q1, q2, q3, q4, q5, q6, q7, q8, q9, q10, q11, q12, q13⟩, f0, f1, f2, f3, f4, f5, f6, f7, f8, f9, f10, f11, f12, f13⟩ := cells14 k4.blk
  have hl4 := k4.lt
  have g4 : Gm _ (w4.setCell ⟨w1.heap.size, 3, none⟩ (.int .i64 (tm : Int))) _ w1.heap.size _ b pc ec #[.int .i64 3, .int .i64 (fr : Int), .int .i64 (to : Int), .int .i64 (tm : Int), .int .i64 0, .int .i64 0, .int .i64 0, .int .i64 0, .int .i64 0, .bool false, .slice none 0 0, .int .i64 0, .int .i64 0, .slice none 0 0] := k4.set 3 (.int .i64 (tm : Int))
  clear g3 k4
  go_wp2_with fail
  refine (gmI g4 H1).mono ?_
  rintro r w5 ⟨rfl, k5⟩
  obtain ⟨⟨q0, q1, q2, q3, q4, q5, q6, q7, q8, q9, q10, q11, q12, q13⟩, f0, f1, f2, f3, f4, f5, f6, f7, f8, f9, f10, f11, f12, f13⟩ := cells14 k5.blk
  have hl5 := k5.lt
  have g5 : Gm _ (w5.setCell ⟨w1.heap.size, 4, none⟩ (.int .i64 (n1 : Int))) _ w1.heap.size _ b p1 e1 #[.int .i64 3, .int .i64 (fr : Int), .int .i64 (to : Int), .int .i64 (tm : Int), .int .i64 (n1 : Int), .int .i64 0, .int .i64 0, .int .i64 0, .int .i64 0, .bool false, .slice none 0 0, .int .i64 0, .int .i64 0, .slice none 0 0] := k5.set 4 (.int .i64 (n1 : Int))
  clear g4 k5
  go_wp2_with fail
  refine (gmI g5 H2).mono ?_
  rintro r w6 ⟨rfl, k6⟩
  obtain ⟨⟨q0, q1, q2, q3, q4, q5, q6, q7, q8, q9, q10, q11, q12, q13⟩, f0, f1, f2, f3, f4, f5, f6, f7, f8, f9, f10, f11, f12, f13⟩ := cells14 k6.blk
  have hl6 := k6.lt
  have g6 : Gm _ (w6.setCell ⟨w1.heap.size, 5, none⟩ (.int .i64 (n2 : Int))) _ w1.heap.size _ b p2 e2 #[.int .i64 3, .int .i64 (fr : Int), .int .i64 (to : Int), .int .i64 (tm : Int), .int .i64 (n1 : Int), .int .i64 (n2 : Int), .int .i64 0, .int .i64 0, .int .i64 0, .bool false, .slice none 0 0, .int .i64 0, .int .i64 0, .slice none 0 0] := k6.set 5 (.int .i64 (n2 : Int))
  clear g5 k6
  go_wp2_with fail
  refine (gmI g6 H3).mono ?_
  rintro r w7 ⟨rfl, k7⟩
  obtain ⟨⟨q0, q1, q2, q3, q4, q5, q6, q7, q8, q9, q10, q11, q12, q13⟩, f0, f1, f2, f3, f4, f5, f6, f7, f8, f9, f10, f11, f12, f13⟩ := cells14 k7.blk
  have hl7 := k7.lt
  have g7 : Gm _ (w7.setCell ⟨w1.heap.size, 6, none⟩ (.int .i64 (n3 : Int))) _ w1.heap.size _ b p3 e3 #[.int .i64 3, .int .i64 (fr : Int), .int .i64 (to : Int), .int .i64 (tm : Int), .int .i64 (n1 : Int), .int .i64 (n2 : Int), .int .i64 (n3 : Int), .int .i64 0, .int .i64 0, .bool false, .slice none 0 0, .int .i64 0, .int .i64 0, .slice none 0 0] := k7.set 6 (.int .i64 (n3 : Int))
  clear g6 k7
  go_wp2_with fail
  refine (HRE.out _ _ _ _ g7.rq).mono ?_
  rintro r w8 ⟨va, vc, es, pz, ez, rfl, hO8, h8, hz1, hz2, hg8⟩
  have g8 := g7.turn h8 hg8
  have HX5 : Hid (w1.heap.size < (w7.setCell ⟨w1.heap.size, 6, none⟩ (.int .i64 (n3 : Int))).heap.size) := g7.lt
  obtain ⟨N5, hN5⟩ : ∃ N5, (w7.setCell ⟨w1.heap.size, 6, none⟩ (.int .i64 (n3 : Int))).heap.size = N5 := ⟨_, rfl⟩
  rw [hN5] at hO8 HX5
  have HE : Hid (E = if doneE b pz ez = 0 then CK else doneE b pz ez) := by
    show E = _
    rw [HE0.out]
    by_cases h3 : E3 = 0
    · have := (hz2 h3).1
      rw [if_neg (by simp [h3]), ← this]
    · rw [if_pos h3, hz1 h3, doneE_err _ _ _ h3, if_neg h3]
  have HSY : Hid (E = 0 → es.map Ent.says = saysN XE.2.1) := fun h0 => by
    refine (hz2 ?_).2
    have := HE0.out
    by_cases h3 : E3 = 0
    · exact h3
    · rw [if_pos h3] at this; omega
  have HCK : Hid (doneE b pz ez = 0 → ∀ N w', EntsAt N w' va es → N ≤ w'.heap.size → Calls Try.prog 50 #[.agg #[.int .i64 3, .int .i64 (fr : Int), .int .i64 (to : Int), .int .i64 (tm : Int), .int .i64 (n1 : Int), .int .i64 (n2 : Int), .int .i64 (n3 : Int), .int .i64 0, .int .i64 0, .bool false, .slice va es.length vc, .int .i64 0, .int .i64 0, .slice none 0 0]] w' fun e w'' => e = .returned (.int .i64 (CK : Int)) ∧ Below w'.heap.size w' w'') := fun h0 N w' hA hN => by
    have h3 : E3 = 0 := by
      by_cases h3 : E3 = 0
      · exact h3
      · rw [hz1 h3, doneE_err _ _ _ h3] at h0; exact absurd h0 h3
    have hs := (hz2 h3).2
    refine HCK0.out va vc es N w' hA hN ?_ hs
    have h1 := HLL.out es hs
    have h2 := H64.out h3
    omega
  obtain ⟨⟨q0, q1, q2, q3, q4, q5, q6, q7, q8, q9, q10, q11, q12, q13⟩, f0, f1, f2, f3, f4, f5, f6, f7, f8, f9, f10, f11, f12, f13⟩ := cells14 g8.blk
  have hl8 := g8.lt
  have HW5 : Hid (w.heap.size < N5) := by have := HLX.out; have := HX5.out; show w.heap.size < N5; omega
  clear hg8 h8 hz1 hz2 hN5 g7 HE0 HCK0 HLL H64
  have g9 : Gm _ (w8.setCell ⟨w1.heap.size, 10, none⟩ (.slice va es.length vc)) _ w1.heap.size _ b pz ez #[.int .i64 3, .int .i64 (fr : Int), .int .i64 (to : Int), .int .i64 (tm : Int), .int .i64 (n1 : Int), .int .i64 (n2 : Int), .int .i64 (n3 : Int), .int .i64 0, .int .i64 0, .bool false, .slice va es.length vc, .int .i64 0, .int .i64 0, .slice none 0 0] := g8.set 10 (.slice va es.length vc)
  have HO9 : Hid (EntsOw N5 (w8.setCell ⟨w1.heap.size, 10, none⟩ (.slice va es.length vc)) (.slice va es.length vc) es) := hO8.kept (grown_set _ _ _ _) HX5.out
  clear g8 hO8
  go_wp2_with fail
  refine (rqDone_any g9.rq).mono ?_
  rintro r w20 ⟨rfl, hB20⟩
  have g20 := g9.mono hB20
  have HO20 : Hid (EntsOw N5 w20 (.slice va es.length vc) es) := ⟨HO9.out.row.kept (Below.grownBy' hB20 none) (by cases va <;> simp [Value.ownBlock]), fun e he => (HO9.out.dat e he).below hB20 (Nat.le_refl _)⟩
  have HR20 : Hid (w20.heap[w.heap.size]? = some (.cells #[.int .i64 0, .int .i64 0, .int .i64 0, .int .i64 0, .int .i64 0, .int .i64 0, .int .i64 0, .int .i64 0, .int .i64 0, .bool false, .slice none 0 0, .int .i64 0, .int .i64 0, .slice none 0 0] 95 (0, 0))) := (g20.rq.bel.block _ (by simp)).trans HR.out
  have HL20 : Hid (w1.heap.size < w20.heap.size) := g20.lt
  have HB20 : Hid (Below w.heap.size w w20) := HB0.out.trans (g20.rq.bel.mono (by simp))
  have HX20 : Hid (w20.heap[w1.heap.size]? = some (.cells #[.int .i64 3, .int .i64 (fr : Int), .int .i64 (to : Int), .int .i64 (tm : Int), .int .i64 (n1 : Int), .int .i64 (n2 : Int), .int .i64 (n3 : Int), .int .i64 0, .int .i64 0, .bool false, .slice va es.length vc, .int .i64 0, .int .i64 0, .slice none 0 0] 95 (0, 0))) := g20.blk
  clear g9 g20 hB20 h1 q0 q1 q2 q3 q4 q5 q6 q7 q8 q9 q10 q11 q12 q13 f0 f1 f2 f3 f4 f5 f6 f7 f8 f9 f10 f11 f12 f13
  by_cases he : doneE b pz ez = 0
  · have hE := HE.out
    rw [if_pos he] at hE
    rw [← hE] at HCK
    rw [he]
    obtain ⟨⟨q0, q1, q2, q3, q4, q5, q6, q7, q8, q9, q10, q11, q12, q13⟩, -⟩ := cells14 HX20.out
    go_wp2_with fail
    refine (HCK.out he w20.heap.size w20 HO20.out.at (Nat.le_refl _)).mono ?_
    rintro r w21 ⟨rfl, hB21⟩
    have HX21 : Hid (w21.heap[w1.heap.size]? = some (.cells #[.int .i64 3, .int .i64 (fr : Int), .int .i64 (to : Int), .int .i64 (tm : Int), .int .i64 (n1 : Int), .int .i64 (n2 : Int), .int .i64 (n3 : Int), .int .i64 0, .int .i64 0, .bool false, .slice va es.length vc, .int .i64 0, .int .i64 0, .slice none 0 0] 95 (0, 0))) := (hB21.block _ HL20.out).trans HX20.out
    have HR21 : Hid (w21.heap[w.heap.size]? = some (.cells #[.int .i64 0, .int .i64 0, .int .i64 0, .int .i64 0, .int .i64 0, .int .i64 0, .int .i64 0, .int .i64 0, .int .i64 0, .bool false, .slice none 0 0, .int .i64 0, .int .i64 0, .slice none 0 0] 95 (0, 0))) := (hB21.block _ (by have := HL20.out; have := HLX.out; omega)).trans HR20.out
    have HF : Hid (Below w.heap.size w w21) := HB20.out.trans (hB21.mono HB20.out.size)
    obtain ⟨⟨q0, q1, q2, q3, q4, q5, q6, q7, q8, q9, q10, q11, q12, q13⟩, -⟩ := cells14 HX21.out
    obtain ⟨⟨r0, r1, r2, r3, r4, r5, r6, r7, r8, r9, r10, r11, r12, r13⟩, f0, f1, f2, f3, f4, f5, f6, f7, f8, f9, f10, f11, f12, f13⟩ := cells14 HR21.out
    have hl21 : w1.heap.size < w21.heap.size := by have := HL20.out; have := hB21.size; omega
    have hl22 : w.heap.size < w21.heap.size := by have := HLX.out; omega
    have hne : w.heap.size ≠ w1.heap.size := by have := HLX.out; omega
    clear hE
    by_cases hEn : E = 0
    · subst hEn
      go_wp2
      refine bodyPost_ret (results_95 rfl _ _ w.heap.size rfl (set14 HR21.out _ _ _ _ _ _ _ _ _ _ _ _ _ _)) rfl ?_
      refine ⟨⟨va, vc, es, rfl, ?_, fun _ => HSY.out (by first | exact True.intro | exact rfl)⟩, belset14 HF.out (by omega) _ _ _ _ _ _ _ _ _ _ _ _ _ _⟩
      exact (EntsOw.kept ⟨HO20.out.row.kept (Below.grownBy' hB21 none) (by cases va <;> simp [Value.ownBlock]), fun e he => (HO20.out.dat e he).below hB21 (Nat.le_refl _)⟩ (grownset14 w21 w.heap.size _ _ _ _ _ _ _ _ _ _ _ _ _ _) HW5.out).base (by have := HW5.out; omega)
    · have hke : ((E : Int) != 0) = true := by simp; omega
      go_wp2
      refine bodyPost_ret (results_95 rfl _ _ w.heap.size rfl (set14 HR21.out _ _ _ _ _ _ _ _ _ _ _ _ _ _)) rfl ?_
      refine ⟨⟨va, vc, es, by simp [hEn], ?_, HSY.out⟩, belset14 HF.out (by omega) _ _ _ _ _ _ _ _ _ _ _ _ _ _⟩
      exact (EntsOw.kept ⟨HO20.out.row.kept (Below.grownBy' hB21 none) (by cases va <;> simp [Value.ownBlock]), fun e he => (HO20.out.dat e he).below hB21 (Nat.le_refl _)⟩ (grownset14 w21 w.heap.size _ _ _ _ _ _ _ _ _ _ _ _ _ _) HW5.out).base (by have := HW5.out; omega)
  · have hE := HE.out
    rw [if_neg he] at hE
    rw [← hE]
    have hEn : ¬ E = 0 := by omega
    have hke : ((E : Int) == 0) = false := by simp; omega
    have hke2 : ((E : Int) != 0) = true := by simp; omega
    obtain ⟨⟨r0, r1, r2, r3, r4, r5, r6, r7, r8, r9, r10, r11, r12, r13⟩, f0, f1, f2, f3, f4, f5, f6, f7, f8, f9, f10, f11, f12, f13⟩ := cells14 HR20.out
    have hl20 : w.heap.size < w20.heap.size := by have := HL20.out; have := HLX.out; omega
    clear hE
    go_wp2
    refine bodyPost_ret (results_95 rfl _ _ w.heap.size rfl (set14 HR20.out _ _ _ _ _ _ _ _ _ _ _ _ _ _)) rfl ?_
    refine ⟨⟨va, vc, es, by simp [hEn], ?_, HSY.out⟩, belset14 HB20.out (by omega) _ _ _ _ _ _ _ _ _ _ _ _ _ _⟩
    exact (EntsOw.kept HO20.out (grownset14 w20 w.heap.size _ _ _ _ _ _ _ _ _ _ _ _ _ _) HW5.out).base (by have := HW5.out; omega)

end Go.Proofs.Ytfnnbfgfmbiabaa

