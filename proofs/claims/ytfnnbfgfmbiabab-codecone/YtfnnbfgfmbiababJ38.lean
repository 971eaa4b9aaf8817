/-
  GetU.
-/
import Derived.Test.YtfnnbfgfmbiababJ19
import Derived.Test.YtfnnbfgfmbiababJ20
import Derived.Test.YtfnnbfgfmbiababJ37
import Derived.Test.YtfnnbfgfmbiababJ36
/-
  What a message's kind uses, read: the code's.
-/
namespace Go.Proofs.Ytfnnbfgfmbiabab
open Go.RowKit Go.Shelf

theorem Tn.setX {w w1 : World} {B X : Nat} (h : Tn w w1 B (.slice (some ⟨X, 0, none⟩) 0 0)) (o : Nat) (u : Value) : Tn w (w1.setCell ⟨X, o, none⟩ u) B (.slice (some ⟨X, 0, none⟩) 0 0) :=
  ⟨h.os, h.tape, h.output, Nat.le_trans h.size (by simp [World.setCell]), fun k hk hB hv => (Below.heap_setCell _ _ _ k (fun e => hv (by rw [e]; rfl))).trans (h.block k hk hB hv)⟩

/-- A bool is read. -/
def rdT (l : List UInt8) (s : Nat × Nat) : Bool × (Nat × Nat) := ((boolAt l s.1 s.2).1, ((boolAt l s.1 s.2).2.1, (boolAt l s.1 s.2).2.2))

theorem rrTg {w0 w : World} {R : Nat} {l : List UInt8} {a e a' e' : Nat} {n : Bool} (h : Rr w0 w R l a e) (hr : Hid (rdT l (a, e) = (n, (a', e')))) :
    Calls Try.prog 97 #[.pointer (some ⟨R, 0, none⟩)] w fun r w' => r = .returned (.bool n) ∧ Rr w0 w' R l a' e' ∧ w.grownBy w' (some R) := by
  have hle := boolAt_le l a e h.le
  refine (rBool_any _ R l a e w h.rdr h.len h.le).mono ?_
  rintro r w' ⟨rfl, h', hg⟩
  have h2 := hr.out
  simp only [rdT, Prod.mk.injEq] at h2
  obtain ⟨rfl, rfl, rfl⟩ := h2
  exact ⟨rfl, h.turn h' hg hle, hg⟩

set_option maxRecDepth 100000 in
set_option maxHeartbeats 8000000 in
theorem getU1_any (fr to tm : Int) {w0 w : World} {R X : Nat} {l : List UInt8} {p e p1 e1 p2 e2 n1 n2 : Nat} (h : Rr w0 w R l p e) (hX : w.heap[X]? = some (.cells #[.int .i64 1, .int .i64 fr, .int .i64 to, .int .i64 tm, .int .i64 0, .int .i64 0, .int .i64 0, .int .i64 0, .int .i64 0, .bool false, .slice none 0 0, .int .i64 0, .int .i64 0, .slice none 0 0] 49 (0, 0))) (hRX : R < X) (H1 : Hid (rdN l (p, e) = (n1, (p1, e1)))) (H2 : Hid (rdN l (p1, e1) = (n2, (p2, e2)))) :
    Calls Try.prog 68 #[.pointer (some ⟨R, 0, none⟩), .pointer (some ⟨X, 0, none⟩)] w fun r w' => r = .returned (.int .i64 0) ∧ Rr w0 w' R l p2 e2 ∧ w'.heap[X]? = some (.cells #[.int .i64 1, .int .i64 fr, .int .i64 to, .int .i64 tm, .int .i64 (n1 : Int), .int .i64 (n2 : Int), .int .i64 0, .int .i64 0, .int .i64 0, .bool false, .slice none 0 0, .int .i64 0, .int .i64 0, .slice none 0 0] 49 (0, 0)) ∧ Tn w w' R (.slice (some ⟨X, 0, none⟩) 0 0) := by
  have hXl := (Array.getElem?_eq_some_iff.1 hX).1
  obtain ⟨⟨q0, q1, q2, q3, q4, q5, q6, q7, q8, q9, q10, q11, q12, q13⟩, f0, f1, f2, f3, f4, f5, f6, f7, f8, f9, f10, f11, f12, f13⟩ := cells14 hX
  have HX0 : Hid (w.heap[X]? = some (.cells #[.int .i64 1, .int .i64 fr, .int .i64 to, .int .i64 tm, .int .i64 0, .int .i64 0, .int .i64 0, .int .i64 0, .int .i64 0, .bool false, .slice none 0 0, .int .i64 0, .int .i64 0, .slice none 0 0] 49 (0, 0))) := hX
  have hT0 : w.grownBy w (some R) := grown_refl w _
  clear hX
  go_enter Try.func68, Try.ntmps68
  go_wp2_with fail
  refine (rrIg h H1).mono ?_
  rintro r w1 ⟨rfl, h1, hg1⟩
  have HX1 : Hid (w1.heap[X]? = some (.cells #[.int .i64 1, .int .i64 fr, .int .i64 to, .int .i64 tm, .int .i64 0, .int .i64 0, .int .i64 0, .int .i64 0, .int .i64 0, .bool false, .slice none 0 0, .int .i64 0, .int .i64 0, .slice none 0 0] 49 (0, 0))) := (hg1.block X (by have := hT0.size; omega) (by simp; omega)).trans HX0.out
  have hT1 : w.grownBy w1 (some R) := grown_trans hT0 hg1 (fun k e => .inl e)
  clear hg1
  obtain ⟨⟨q0, q1, q2, q3, q4, q5, q6, q7, q8, q9, q10, q11, q12, q13⟩, f0, f1, f2, f3, f4, f5, f6, f7, f8, f9, f10, f11, f12, f13⟩ := cells14 HX1.out
  go_wp2_with fail
  refine (rrIg h1 H2).mono ?_
  rintro r w2 ⟨rfl, h2, hg2⟩
  have HX2 : Hid (w2.heap[X]? = some (.cells #[.int .i64 1, .int .i64 fr, .int .i64 to, .int .i64 tm, .int .i64 0, .int .i64 0, .int .i64 0, .int .i64 0, .int .i64 0, .bool false, .slice none 0 0, .int .i64 0, .int .i64 0, .slice none 0 0] 49 (0, 0))) := (hg2.block X (by have := hT1.size; omega) (by simp; omega)).trans HX1.out
  have hT2 : w.grownBy w2 (some R) := grown_trans hT1 hg2 (fun k e => .inl e)
  clear hg2
  obtain ⟨⟨q0, q1, q2, q3, q4, q5, q6, q7, q8, q9, q10, q11, q12, q13⟩, f0, f1, f2, f3, f4, f5, f6, f7, f8, f9, f10, f11, f12, f13⟩ := cells14 HX2.out
  have HF1 := (Rr.set (o := 5) (v := (.int .i64 (n2 : Int))) (Rr.set (o := 4) (v := (.int .i64 (n1 : Int))) h2 hRX) hRX)
  have HF2 := (heap_set (heap_set HX2.out 4 (.int .i64 (n1 : Int))) 5 (.int .i64 (n2 : Int)))
  have HF3 : Tn w _ R (.slice (some ⟨X, 0, none⟩) 0 0) := (Tn.setX (Tn.setX (Tn.of_grown hT2 (fun k e => .inl (by cases e; rfl))) 4 (.int .i64 (n1 : Int))) 5 (.int .i64 (n2 : Int)))
  have HF : Hid (Rr w0 _ R l p2 e2 ∧ _ ∧ Tn w _ R (.slice (some ⟨X, 0, none⟩) 0 0)) := ⟨HF1, HF2, HF3⟩
  clear HF1 HF2 HF3 h2 hT2
  go_wp2
  go_returns
  refine ⟨rfl, HF.out.1, ?_, HF.out.2.2⟩
  exact HF.out.2.1

set_option maxRecDepth 100000 in
set_option maxHeartbeats 8000000 in
theorem getU2_any (fr to tm : Int) {w0 w : World} {R X : Nat} {l : List UInt8} {p e p1 e1 : Nat} {n1 : Bool} (h : Rr w0 w R l p e) (hX : w.heap[X]? = some (.cells #[.int .i64 2, .int .i64 fr, .int .i64 to, .int .i64 tm, .int .i64 0, .int .i64 0, .int .i64 0, .int .i64 0, .int .i64 0, .bool false, .slice none 0 0, .int .i64 0, .int .i64 0, .slice none 0 0] 49 (0, 0))) (hRX : R < X) (H1 : Hid (rdT l (p, e) = (n1, (p1, e1)))) :
    Calls Try.prog 68 #[.pointer (some ⟨R, 0, none⟩), .pointer (some ⟨X, 0, none⟩)] w fun r w' => r = .returned (.int .i64 0) ∧ Rr w0 w' R l p1 e1 ∧ w'.heap[X]? = some (.cells #[.int .i64 2, .int .i64 fr, .int .i64 to, .int .i64 tm, .int .i64 0, .int .i64 0, .int .i64 0, .int .i64 0, .int .i64 0, .bool n1, .slice none 0 0, .int .i64 0, .int .i64 0, .slice none 0 0] 49 (0, 0)) ∧ Tn w w' R (.slice (some ⟨X, 0, none⟩) 0 0) := by
  have hXl := (Array.getElem?_eq_some_iff.1 hX).1
  obtain ⟨⟨q0, q1, q2, q3, q4, q5, q6, q7, q8, q9, q10, q11, q12, q13⟩, f0, f1, f2, f3, f4, f5, f6, f7, f8, f9, f10, f11, f12, f13⟩ := cells14 hX
  have HX0 : Hid (w.heap[X]? = some (.cells #[.int .i64 2, .int .i64 fr, .int .i64 to, .int .i64 tm, .int .i64 0, .int .i64 0, .int .i64 0, .int .i64 0, .int .i64 0, .bool false, .slice none 0 0, .int .i64 0, .int .i64 0, .slice none 0 0] 49 (0, 0))) := hX
  have hT0 : w.grownBy w (some R) := grown_refl w _
  clear hX
  go_enter Try.func68, Try.ntmps68
  go_wp2_with fail
  refine (rrTg h H1).mono ?_
  rintro r w1 ⟨rfl, h1, hg1⟩
  have HX1 : Hid (w1.heap[X]? = some (.cells #[.int .i64 2, .int .i64 fr, .int .i64 to, .int .i64 tm, .int .i64 0, .int .i64 0, .int .i64 0, .int .i64 0, .int .i64 0, .bool false, .slice none 0 0, .int .i64 0, .int .i64 0, .slice none 0 0] 49 (0, 0))) := (hg1.block X (by have := hT0.size; omega) (by simp; omega)).trans HX0.out
  have hT1 : w.grownBy w1 (some R) := grown_trans hT0 hg1 (fun k e => .inl e)
  clear hg1
  obtain ⟨⟨q0, q1, q2, q3, q4, q5, q6, q7, q8, q9, q10, q11, q12, q13⟩, f0, f1, f2, f3, f4, f5, f6, f7, f8, f9, f10, f11, f12, f13⟩ := cells14 HX1.out
  have HF1 := (Rr.set (o := 9) (v := (.bool n1)) h1 hRX)
  have HF2 := (heap_set HX1.out 9 (.bool n1))
  have HF3 : Tn w _ R (.slice (some ⟨X, 0, none⟩) 0 0) := (Tn.setX (Tn.of_grown hT1 (fun k e => .inl (by cases e; rfl))) 9 (.bool n1))
  have HF : Hid (Rr w0 _ R l p1 e1 ∧ _ ∧ Tn w _ R (.slice (some ⟨X, 0, none⟩) 0 0)) := ⟨HF1, HF2, HF3⟩
  clear HF1 HF2 HF3 h1 hT1
  go_wp2
  go_returns
  refine ⟨rfl, HF.out.1, ?_, HF.out.2.2⟩
  exact HF.out.2.1

set_option maxRecDepth 100000 in
set_option maxHeartbeats 8000000 in
theorem getU4_any (fr to tm : Int) {w0 w : World} {R X : Nat} {l : List UInt8} {p e p1 e1 p2 e2 p3 e3 n1 n3 : Nat} {n2 : Bool} (h : Rr w0 w R l p e) (hX : w.heap[X]? = some (.cells #[.int .i64 4, .int .i64 fr, .int .i64 to, .int .i64 tm, .int .i64 0, .int .i64 0, .int .i64 0, .int .i64 0, .int .i64 0, .bool false, .slice none 0 0, .int .i64 0, .int .i64 0, .slice none 0 0] 49 (0, 0))) (hRX : R < X) (H1 : Hid (rdN l (p, e) = (n1, (p1, e1)))) (H2 : Hid (rdT l (p1, e1) = (n2, (p2, e2)))) (H3 : Hid (rdN l (p2, e2) = (n3, (p3, e3)))) :
    Calls Try.prog 68 #[.pointer (some ⟨R, 0, none⟩), .pointer (some ⟨X, 0, none⟩)] w fun r w' => r = .returned (.int .i64 0) ∧ Rr w0 w' R l p3 e3 ∧ w'.heap[X]? = some (.cells #[.int .i64 4, .int .i64 fr, .int .i64 to, .int .i64 tm, .int .i64 (n1 : Int), .int .i64 0, .int .i64 0, .int .i64 (n3 : Int), .int .i64 0, .bool n2, .slice none 0 0, .int .i64 0, .int .i64 0, .slice none 0 0] 49 (0, 0)) ∧ Tn w w' R (.slice (some ⟨X, 0, none⟩) 0 0) := by
  have hXl := (Array.getElem?_eq_some_iff.1 hX).1
  obtain ⟨⟨q0, q1, q2, q3, q4, q5, q6, q7, q8, q9, q10, q11, q12, q13⟩, f0, f1, f2, f3, f4, f5, f6, f7, f8, f9, f10, f11, f12, f13⟩ := cells14 hX
  have HX0 : Hid (w.heap[X]? = some (.cells #[.int .i64 4, .int .i64 fr, .int .i64 to, .int .i64 tm, .int .i64 0, .int .i64 0, .int .i64 0, .int .i64 0, .int .i64 0, .bool false, .slice none 0 0, .int .i64 0, .int .i64 0, .slice none 0 0] 49 (0, 0))) := hX
  have hT0 : w.grownBy w (some R) := grown_refl w _
  clear hX
  go_enter Try.func68, Try.ntmps68
  go_wp2_with fail
  refine (rrIg h H1).mono ?_
  rintro r w1 ⟨rfl, h1, hg1⟩
  have HX1 : Hid (w1.heap[X]? = some (.cells #[.int .i64 4, .int .i64 fr, .int .i64 to, .int .i64 tm, .int .i64 0, .int .i64 0, .int .i64 0, .int .i64 0, .int .i64 0, .bool false, .slice none 0 0, .int .i64 0, .int .i64 0, .slice none 0 0] 49 (0, 0))) := (hg1.block X (by have := hT0.size; omega) (by simp; omega)).trans HX0.out
  have hT1 : w.grownBy w1 (some R) := grown_trans hT0 hg1 (fun k e => .inl e)
  clear hg1
  obtain ⟨⟨q0, q1, q2, q3, q4, q5, q6, q7, q8, q9, q10, q11, q12, q13⟩, f0, f1, f2, f3, f4, f5, f6, f7, f8, f9, f10, f11, f12, f13⟩ := cells14 HX1.out
  go_wp2_with fail
  refine (rrTg h1 H2).mono ?_
  rintro r w2 ⟨rfl, h2, hg2⟩
  have HX2 : Hid (w2.heap[X]? = some (.cells #[.int .i64 4, .int .i64 fr, .int .i64 to, .int .i64 tm, .int .i64 0, .int .i64 0, .int .i64 0, .int .i64 0, .int .i64 0, .bool false, .slice none 0 0, .int .i64 0, .int .i64 0, .slice none 0 0] 49 (0, 0))) := (hg2.block X (by have := hT1.size; omega) (by simp; omega)).trans HX1.out
  have hT2 : w.grownBy w2 (some R) := grown_trans hT1 hg2 (fun k e => .inl e)
  clear hg2
  obtain ⟨⟨q0, q1, q2, q3, q4, q5, q6, q7, q8, q9, q10, q11, q12, q13⟩, f0, f1, f2, f3, f4, f5, f6, f7, f8, f9, f10, f11, f12, f13⟩ := cells14 HX2.out
  go_wp2_with fail
  refine (rrIg h2 H3).mono ?_
  rintro r w3 ⟨rfl, h3, hg3⟩
  have HX3 : Hid (w3.heap[X]? = some (.cells #[.int .i64 4, .int .i64 fr, .int .i64 to, .int .i64 tm, .int .i64 0, .int .i64 0, .int .i64 0, .int .i64 0, .int .i64 0, .bool false, .slice none 0 0, .int .i64 0, .int .i64 0, .slice none 0 0] 49 (0, 0))) := (hg3.block X (by have := hT2.size; omega) (by simp; omega)).trans HX2.out
  have hT3 : w.grownBy w3 (some R) := grown_trans hT2 hg3 (fun k e => .inl e)
  clear hg3
  obtain ⟨⟨q0, q1, q2, q3, q4, q5, q6, q7, q8, q9, q10, q11, q12, q13⟩, f0, f1, f2, f3, f4, f5, f6, f7, f8, f9, f10, f11, f12, f13⟩ := cells14 HX3.out
  have HF1 := (Rr.set (o := 7) (v := (.int .i64 (n3 : Int))) (Rr.set (o := 9) (v := (.bool n2)) (Rr.set (o := 4) (v := (.int .i64 (n1 : Int))) h3 hRX) hRX) hRX)
  have HF2 := (heap_set (heap_set (heap_set HX3.out 4 (.int .i64 (n1 : Int))) 9 (.bool n2)) 7 (.int .i64 (n3 : Int)))
  have HF3 : Tn w _ R (.slice (some ⟨X, 0, none⟩) 0 0) := (Tn.setX (Tn.setX (Tn.setX (Tn.of_grown hT3 (fun k e => .inl (by cases e; rfl))) 4 (.int .i64 (n1 : Int))) 9 (.bool n2)) 7 (.int .i64 (n3 : Int)))
  have HF : Hid (Rr w0 _ R l p3 e3 ∧ _ ∧ Tn w _ R (.slice (some ⟨X, 0, none⟩) 0 0)) := ⟨HF1, HF2, HF3⟩
  clear HF1 HF2 HF3 h3 hT3
  go_wp2
  go_returns
  refine ⟨rfl, HF.out.1, ?_, HF.out.2.2⟩
  exact HF.out.2.1

set_option maxRecDepth 100000 in
set_option maxHeartbeats 8000000 in
theorem getU5_any (fr to tm : Int) {w0 w : World} {R X : Nat} {l : List UInt8} {p e p1 e1 p2 e2 n1 n2 : Nat} (h : Rr w0 w R l p e) (hX : w.heap[X]? = some (.cells #[.int .i64 5, .int .i64 fr, .int .i64 to, .int .i64 tm, .int .i64 0, .int .i64 0, .int .i64 0, .int .i64 0, .int .i64 0, .bool false, .slice none 0 0, .int .i64 0, .int .i64 0, .slice none 0 0] 49 (0, 0))) (hRX : R < X) (H1 : Hid (rdN l (p, e) = (n1, (p1, e1)))) (H2 : Hid (rdN l (p1, e1) = (n2, (p2, e2)))) :
    Calls Try.prog 68 #[.pointer (some ⟨R, 0, none⟩), .pointer (some ⟨X, 0, none⟩)] w fun r w' => r = .returned (.int .i64 0) ∧ Rr w0 w' R l p2 e2 ∧ w'.heap[X]? = some (.cells #[.int .i64 5, .int .i64 fr, .int .i64 to, .int .i64 tm, .int .i64 0, .int .i64 0, .int .i64 (n1 : Int), .int .i64 0, .int .i64 (n2 : Int), .bool false, .slice none 0 0, .int .i64 0, .int .i64 0, .slice none 0 0] 49 (0, 0)) ∧ Tn w w' R (.slice (some ⟨X, 0, none⟩) 0 0) := by
  have hXl := (Array.getElem?_eq_some_iff.1 hX).1
  obtain ⟨⟨q0, q1, q2, q3, q4, q5, q6, q7, q8, q9, q10, q11, q12, q13⟩, f0, f1, f2, f3, f4, f5, f6, f7, f8, f9, f10, f11, f12, f13⟩ := cells14 hX
  have HX0 : Hid (w.heap[X]? = some (.cells #[.int .i64 5, .int .i64 fr, .int .i64 to, .int .i64 tm, .int .i64 0, .int .i64 0, .int .i64 0, .int .i64 0, .int .i64 0, .bool false, .slice none 0 0, .int .i64 0, .int .i64 0, .slice none 0 0] 49 (0, 0))) := hX
  have hT0 : w.grownBy w (some R) := grown_refl w _
  clear hX
  go_enter Try.func68, Try.ntmps68
  go_wp2_with fail
  refine (rrIg h H1).mono ?_
  rintro r w1 ⟨rfl, h1, hg1⟩
  have HX1 : Hid (w1.heap[X]? = some (.cells #[.int .i64 5, .int .i64 fr, .int .i64 to, .int .i64 tm, .int .i64 0, .int .i64 0, .int .i64 0, .int .i64 0, .int .i64 0, .bool false, .slice none 0 0, .int .i64 0, .int .i64 0, .slice none 0 0] 49 (0, 0))) := (hg1.block X (by have := hT0.size; omega) (by simp; omega)).trans HX0.out
  have hT1 : w.grownBy w1 (some R) := grown_trans hT0 hg1 (fun k e => .inl e)
  clear hg1
  obtain ⟨⟨q0, q1, q2, q3, q4, q5, q6, q7, q8, q9, q10, q11, q12, q13⟩, f0, f1, f2, f3, f4, f5, f6, f7, f8, f9, f10, f11, f12, f13⟩ := cells14 HX1.out
  go_wp2_with fail
  refine (rrIg h1 H2).mono ?_
  rintro r w2 ⟨rfl, h2, hg2⟩
  have HX2 : Hid (w2.heap[X]? = some (.cells #[.int .i64 5, .int .i64 fr, .int .i64 to, .int .i64 tm, .int .i64 0, .int .i64 0, .int .i64 0, .int .i64 0, .int .i64 0, .bool false, .slice none 0 0, .int .i64 0, .int .i64 0, .slice none 0 0] 49 (0, 0))) := (hg2.block X (by have := hT1.size; omega) (by simp; omega)).trans HX1.out
  have hT2 : w.grownBy w2 (some R) := grown_trans hT1 hg2 (fun k e => .inl e)
  clear hg2
  obtain ⟨⟨q0, q1, q2, q3, q4, q5, q6, q7, q8, q9, q10, q11, q12, q13⟩, f0, f1, f2, f3, f4, f5, f6, f7, f8, f9, f10, f11, f12, f13⟩ := cells14 HX2.out
  have HF1 := (Rr.set (o := 8) (v := (.int .i64 (n2 : Int))) (Rr.set (o := 6) (v := (.int .i64 (n1 : Int))) h2 hRX) hRX)
  have HF2 := (heap_set (heap_set HX2.out 6 (.int .i64 (n1 : Int))) 8 (.int .i64 (n2 : Int)))
  have HF3 : Tn w _ R (.slice (some ⟨X, 0, none⟩) 0 0) := (Tn.setX (Tn.setX (Tn.of_grown hT2 (fun k e => .inl (by cases e; rfl))) 6 (.int .i64 (n1 : Int))) 8 (.int .i64 (n2 : Int)))
  have HF : Hid (Rr w0 _ R l p2 e2 ∧ _ ∧ Tn w _ R (.slice (some ⟨X, 0, none⟩) 0 0)) := ⟨HF1, HF2, HF3⟩
  clear HF1 HF2 HF3 h2 hT2
  go_wp2
  go_returns
  refine ⟨rfl, HF.out.1, ?_, HF.out.2.2⟩
  exact HF.out.2.1

set_option maxRecDepth 100000 in
set_option maxHeartbeats 8000000 in
theorem getU6_any (fr to tm : Int) {w0 w : World} {R X : Nat} {l : List UInt8} {p e p1 e1 n1 : Nat} (h : Rr w0 w R l p e) (hX : w.heap[X]? = some (.cells #[.int .i64 6, .int .i64 fr, .int .i64 to, .int .i64 tm, .int .i64 0, .int .i64 0, .int .i64 0, .int .i64 0, .int .i64 0, .bool false, .slice none 0 0, .int .i64 0, .int .i64 0, .slice none 0 0] 49 (0, 0))) (hRX : R < X) (H1 : Hid (rdN l (p, e) = (n1, (p1, e1)))) :
    Calls Try.prog 68 #[.pointer (some ⟨R, 0, none⟩), .pointer (some ⟨X, 0, none⟩)] w fun r w' => r = .returned (.int .i64 0) ∧ Rr w0 w' R l p1 e1 ∧ w'.heap[X]? = some (.cells #[.int .i64 6, .int .i64 fr, .int .i64 to, .int .i64 tm, .int .i64 0, .int .i64 0, .int .i64 0, .int .i64 0, .int .i64 (n1 : Int), .bool false, .slice none 0 0, .int .i64 0, .int .i64 0, .slice none 0 0] 49 (0, 0)) ∧ Tn w w' R (.slice (some ⟨X, 0, none⟩) 0 0) := by
  have hXl := (Array.getElem?_eq_some_iff.1 hX).1
  obtain ⟨⟨q0, q1, q2, q3, q4, q5, q6, q7, q8, q9, q10, q11, q12, q13⟩, f0, f1, f2, f3, f4, f5, f6, f7, f8, f9, f10, f11, f12, f13⟩ := cells14 hX
  have HX0 : Hid (w.heap[X]? = some (.cells #[.int .i64 6, .int .i64 fr, .int .i64 to, .int .i64 tm, .int .i64 0, .int .i64 0, .int .i64 0, .int .i64 0, .int .i64 0, .bool false, .slice none 0 0, .int .i64 0, .int .i64 0, .slice none 0 0] 49 (0, 0))) := hX
  have hT0 : w.grownBy w (some R) := grown_refl w _
  clear hX
  go_enter Try.func68, Try.ntmps68
  go_wp2_with fail
  refine (rrIg h H1).mono ?_
  rintro r w1 ⟨rfl, h1, hg1⟩
  have HX1 : Hid (w1.heap[X]? = some (.cells #[.int .i64 6, .int .i64 fr, .int .i64 to, .int .i64 tm, .int .i64 0, .int .i64 0, .int .i64 0, .int .i64 0, .int .i64 0, .bool false, .slice none 0 0, .int .i64 0, .int .i64 0, .slice none 0 0] 49 (0, 0))) := (hg1.block X (by have := hT0.size; omega) (by simp; omega)).trans HX0.out
  have hT1 : w.grownBy w1 (some R) := grown_trans hT0 hg1 (fun k e => .inl e)
  clear hg1
  obtain ⟨⟨q0, q1, q2, q3, q4, q5, q6, q7, q8, q9, q10, q11, q12, q13⟩, f0, f1, f2, f3, f4, f5, f6, f7, f8, f9, f10, f11, f12, f13⟩ := cells14 HX1.out
  have HF1 := (Rr.set (o := 8) (v := (.int .i64 (n1 : Int))) h1 hRX)
  have HF2 := (heap_set HX1.out 8 (.int .i64 (n1 : Int)))
  have HF3 : Tn w _ R (.slice (some ⟨X, 0, none⟩) 0 0) := (Tn.setX (Tn.of_grown hT1 (fun k e => .inl (by cases e; rfl))) 8 (.int .i64 (n1 : Int)))
  have HF : Hid (Rr w0 _ R l p1 e1 ∧ _ ∧ Tn w _ R (.slice (some ⟨X, 0, none⟩) 0 0)) := ⟨HF1, HF2, HF3⟩
  clear HF1 HF2 HF3 h1 hT1
  go_wp2
  go_returns
  refine ⟨rfl, HF.out.1, ?_, HF.out.2.2⟩
  exact HF.out.2.1

end Go.Proofs.Ytfnnbfgfmbiabab

