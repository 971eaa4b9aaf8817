/-
  GetX.
-/
import Derived.Test.YtfnnbfgfmbiababJ29
import Derived.Test.YtfnnbfgfmbiababJ39
import Derived.Test.YtfnnbfgfmbiababJ37
import Derived.Test.YtfnnbfgfmbiababJ36
/-
  A message read: the code's Get, kinds 5 and 6; what is no message.
-/
namespace Go.Proofs.Ytfnnbfgfmbiabab
open Go.RowKit Go.Shelf

set_option maxRecDepth 100000 in
set_option maxHeartbeats 8000000 in
theorem getM5_any (b : List UInt8) (v : Value) (M : Nat) (w : World) (hv : Sl M w v b) (hM : M ≤ w.heap.size) (hb : b.length ≤ 1099511627776) {p0 fr pa ea to pb eb tm pc ec p1 e1 p2 e2 n1 n2 : Nat}
    (H0 : Hid (rdN b (0, 0) = (5, (p0, 0)))) (Ha : Hid (rdN b (p0, 0) = (fr, (pa, ea)))) (Hb : Hid (rdN b (pa, ea) = (to, (pb, eb)))) (Hc : Hid (rdN b (pb, eb) = (tm, (pc, ec)))) (H1 : Hid (rdN b (pc, ec) = (n1, (p1, e1)))) (H2 : Hid (rdN b (p1, e1) = (n2, (p2, e2)))) (E : Nat) (hE : E = if doneE b p2 e2 = 0 then ckM5 (fr : Int) (to : Int) (tm : Int) 0 0 (n1 : Int) 0 (n2 : Int) false 0 0 0 0 else doneE b p2 e2) :
    Calls Try.prog 25 #[.agg #[], v] w fun r w' => r = .returned (.tuple #[if E = 0 then .agg #[.int .i64 5, .int .i64 (fr : Int), .int .i64 (to : Int), .int .i64 (tm : Int), .int .i64 0, .int .i64 0, .int .i64 (n1 : Int), .int .i64 0, .int .i64 (n2 : Int), .bool false, .slice none 0 0, .int .i64 0, .int .i64 0, .slice none 0 0] else .agg #[.int .i64 0, .int .i64 0, .int .i64 0, .int .i64 0, .int .i64 0, .int .i64 0, .int .i64 0, .int .i64 0, .int .i64 0, .bool false, .slice none 0 0, .int .i64 0, .int .i64 0, .slice none 0 0], .int .i64 (E : Int)]) ∧ Below w.heap.size w w' := by
  obtain ⟨a, cap, rfl, -⟩ := id hv
  obtain ⟨W0, hW0⟩ : ∃ W0, (w.alloc (.cells #[] 60)).alloc (.cells #[.int .i64 0, .int .i64 0, .int .i64 0, .int .i64 0, .int .i64 0, .int .i64 0, .int .i64 0, .int .i64 0, .int .i64 0, .bool false, .slice none 0 0, .int .i64 0, .int .i64 0, .slice none 0 0] 49) = W0 := ⟨_, rfl⟩
  have HW0 : Hid ((w.alloc (.cells #[] 60)).alloc (.cells #[.int .i64 0, .int .i64 0, .int .i64 0, .int .i64 0, .int .i64 0, .int .i64 0, .int .i64 0, .int .i64 0, .int .i64 0, .bool false, .slice none 0 0, .int .i64 0, .int .i64 0, .slice none 0 0] 49) = W0) := hW0
  have HB0 : Hid (Below w.heap.size w W0) := by show Below w.heap.size w W0; rw [← hW0]; exact (((Below.refl _ w).alloc (by simp) _).alloc (by simp) _)
  have HS : Hid (W0.heap.size = w.heap.size + 2) := by show W0.heap.size = _; rw [← hW0]; simp
  have HR : Hid (∀ w', Below W0.heap.size W0 w' → w'.heap[w.heap.size + 1]? = some (.cells #[.int .i64 0, .int .i64 0, .int .i64 0, .int .i64 0, .int .i64 0, .int .i64 0, .int .i64 0, .int .i64 0, .int .i64 0, .bool false, .slice none 0 0, .int .i64 0, .int .i64 0, .slice none 0 0] 49 (0, 0))) := fun w' hB => by
    refine (hB.block _ (by have := HS.out; omega)).trans ?_
    rw [← hW0]; simpa using World.alloc_heap_new (w.alloc (.cells #[] 60)) _
  have hv0 := hv.below (HB0.out.mono hM)
  clear hW0
  have inK : isIn 5 1 7 = true := by decide
  have HCK : Hid (∀ w', Calls Try.prog 24 #[.agg #[], .agg #[.int .i64 5, .int .i64 (fr : Int), .int .i64 (to : Int), .int .i64 (tm : Int), .int .i64 0, .int .i64 0, .int .i64 (n1 : Int), .int .i64 0, .int .i64 (n2 : Int), .bool false, .slice none 0 0, .int .i64 0, .int .i64 0, .slice none 0 0]] w' fun e w'' => e = .returned (.int .i64 (ckM5 (fr : Int) (to : Int) (tm : Int) 0 0 (n1 : Int) 0 (n2 : Int) false 0 0 0 0 : Int)) ∧ Below w'.heap.size w' w'') := fun w' => chkM5_any (fr : Int) (to : Int) (tm : Int) 0 0 (n1 : Int) 0 (n2 : Int) false none 0 0 0 0 none 0 0 w'
  obtain ⟨CK, hCK⟩ : ∃ CK, ckM5 (fr : Int) (to : Int) (tm : Int) 0 0 (n1 : Int) 0 (n2 : Int) false 0 0 0 0 = CK := ⟨_, rfl⟩
  rw [hCK] at hE HCK
  clear hCK
  have HE : Hid (E = if doneE b p2 e2 = 0 then CK else doneE b p2 e2) := hE
  clear hE
  go_enter Try.func25, Try.ntmps25
  go_wp2_with fail
  rw [HW0.out]
  refine (newR_any W0 hv0 hb).mono ?_
  rintro r w1 ⟨R, rfl, h1⟩
  go_wp2_with fail
  refine (getNumber_any h1 H0).mono ?_
  rintro r w2 ⟨rfl, h2⟩
  go_wp2_with (go_at_call 57; refine (isKind_any _ _).mono ?_; rintro e w' ⟨rfl, hw⟩; subst w'; simp only [inK])
  refine (rrI h2 Ha).mono ?_
  rintro r w3 ⟨rfl, h3⟩
  go_wp2_with fail
  refine (rrI h3 Hb).mono ?_
  rintro r w4 ⟨rfl, h4⟩
  go_wp2_with fail
  refine (rrI h4 Hc).mono ?_
  rintro r w5 ⟨rfl, h5⟩
  go_wp2_with fail
  obtain ⟨W6, hW6⟩ : ∃ W6, w5.alloc (.cells #[.int .i64 5, .int .i64 (fr : Int), .int .i64 (to : Int), .int .i64 (tm : Int), .int .i64 0, .int .i64 0, .int .i64 0, .int .i64 0, .int .i64 0, .bool false, .slice none 0 0, .int .i64 0, .int .i64 0, .slice none 0 0] 49) = W6 := ⟨_, rfl⟩
  rw [hW6]
  have hBx : Below w5.heap.size w5 W6 := by rw [← hW6]; exact (Below.refl _ _).alloc (Nat.le_refl _) _
  have hX6 : W6.heap[w5.heap.size]? = some (.cells #[.int .i64 5, .int .i64 (fr : Int), .int .i64 (to : Int), .int .i64 (tm : Int), .int .i64 0, .int .i64 0, .int .i64 0, .int .i64 0, .int .i64 0, .bool false, .slice none 0 0, .int .i64 0, .int .i64 0, .slice none 0 0] 49 (0, 0)) := by rw [← hW6]; exact World.alloc_heap_new w5 _
  have h6 := h5.mono hBx
  clear hW6 hBx
  refine (getU5_any (fr : Int) (to : Int) (tm : Int) h6 hX6 h5.rdr.lt H1 H2).mono ?_
  rintro r w7 ⟨rfl, h7, hX7, -⟩
  obtain ⟨⟨q0, q1, q2, q3, q4, q5, q6, q7, q8, q9, q10, q11, q12, q13⟩, -⟩ := cells14 hX7
  go_wp2_with fail
  refine (wholeM_any 5 (fr : Int) (to : Int) (tm : Int) 0 0 (n1 : Int) 0 (n2 : Int) false none 0 0 0 0 none 0 0 R b p2 e2 w7 h7 CK E (fun w' _ => HCK.out w') HE.out).mono ?_
  rintro r w8 ⟨rfl, hB8⟩
  have h8 := h7.mono hB8
  have HR8 : Hid (w8.heap[w.heap.size + 1]? = some (.cells #[.int .i64 0, .int .i64 0, .int .i64 0, .int .i64 0, .int .i64 0, .int .i64 0, .int .i64 0, .int .i64 0, .int .i64 0, .bool false, .slice none 0 0, .int .i64 0, .int .i64 0, .slice none 0 0] 49 (0, 0))) := HR.out w8 h8.bel
  have HF : Hid (Below w.heap.size w w8) := HB0.out.trans (h8.bel.mono HB0.out.size)
  obtain ⟨⟨r0, r1, r2, r3, r4, r5, r6, r7, r8, r9, r10, r11, r12, r13⟩, f0, f1, f2, f3, f4, f5, f6, f7, f8, f9, f10, f11, f12, f13⟩ := cells14 HR8.out
  clear h6 h7 h8 hB8 hX7 hX6 HE HCK h5 h4 h3 h2 h1 q0 q1 q2 q3 q4 q5 q6 q7 q8 q9 q10 q11 q12 q13
  by_cases hE0 : E = 0
  · subst hE0
    simp only [if_true]
    go_wp2
    refine bodyPost_ret (results_95 rfl _ _ (w.heap.size + 1) rfl (set14 HR8.out _ _ _ _ _ _ _ _ _ _ _ _ _ _)) rfl ?_
    exact ⟨rfl, belset14 HF.out (by omega) _ _ _ _ _ _ _ _ _ _ _ _ _ _⟩
  · simp only [hE0, if_false]
    go_wp2
    refine bodyPost_ret (results_95 rfl _ _ (w.heap.size + 1) rfl (set14 HR8.out _ _ _ _ _ _ _ _ _ _ _ _ _ _)) rfl ?_
    exact ⟨by simp, belset14 HF.out (by omega) _ _ _ _ _ _ _ _ _ _ _ _ _ _⟩

set_option maxRecDepth 100000 in
set_option maxHeartbeats 8000000 in
theorem getM6_any (b : List UInt8) (v : Value) (M : Nat) (w : World) (hv : Sl M w v b) (hM : M ≤ w.heap.size) (hb : b.length ≤ 1099511627776) {p0 fr pa ea to pb eb tm pc ec p1 e1 n1 : Nat}
    (H0 : Hid (rdN b (0, 0) = (6, (p0, 0)))) (Ha : Hid (rdN b (p0, 0) = (fr, (pa, ea)))) (Hb : Hid (rdN b (pa, ea) = (to, (pb, eb)))) (Hc : Hid (rdN b (pb, eb) = (tm, (pc, ec)))) (H1 : Hid (rdN b (pc, ec) = (n1, (p1, e1)))) (E : Nat) (hE : E = if doneE b p1 e1 = 0 then ckM6 (fr : Int) (to : Int) (tm : Int) 0 0 0 0 (n1 : Int) false 0 0 0 0 else doneE b p1 e1) :
    Calls Try.prog 25 #[.agg #[], v] w fun r w' => r = .returned (.tuple #[if E = 0 then .agg #[.int .i64 6, .int .i64 (fr : Int), .int .i64 (to : Int), .int .i64 (tm : Int), .int .i64 0, .int .i64 0, .int .i64 0, .int .i64 0, .int .i64 (n1 : Int), .bool false, .slice none 0 0, .int .i64 0, .int .i64 0, .slice none 0 0] else .agg #[.int .i64 0, .int .i64 0, .int .i64 0, .int .i64 0, .int .i64 0, .int .i64 0, .int .i64 0, .int .i64 0, .int .i64 0, .bool false, .slice none 0 0, .int .i64 0, .int .i64 0, .slice none 0 0], .int .i64 (E : Int)]) ∧ Below w.heap.size w w' := by
  obtain ⟨a, cap, rfl, -⟩ := id hv
  obtain ⟨W0, hW0⟩ : ∃ W0, (w.alloc (.cells #[] 60)).alloc (.cells #[.int .i64 0, .int .i64 0, .int .i64 0, .int .i64 0, .int .i64 0, .int .i64 0, .int .i64 0, .int .i64 0, .int .i64 0, .bool false, .slice none 0 0, .int .i64 0, .int .i64 0, .slice none 0 0] 49) = W0 := ⟨_, rfl⟩
  have HW0 : Hid ((w.alloc (.cells #[] 60)).alloc (.cells #[.int .i64 0, .int .i64 0, .int .i64 0, .int .i64 0, .int .i64 0, .int .i64 0, .int .i64 0, .int .i64 0, .int .i64 0, .bool false, .slice none 0 0, .int .i64 0, .int .i64 0, .slice none 0 0] 49) = W0) := hW0
  have HB0 : Hid (Below w.heap.size w W0) := by show Below w.heap.size w W0; rw [← hW0]; exact (((Below.refl _ w).alloc (by simp) _).alloc (by simp) _)
  have HS : Hid (W0.heap.size = w.heap.size + 2) := by show W0.heap.size = _; rw [← hW0]; simp
  have HR : Hid (∀ w', Below W0.heap.size W0 w' → w'.heap[w.heap.size + 1]? = some (.cells #[.int .i64 0, .int .i64 0, .int .i64 0, .int .i64 0, .int .i64 0, .int .i64 0, .int .i64 0, .int .i64 0, .int .i64 0, .bool false, .slice none 0 0, .int .i64 0, .int .i64 0, .slice none 0 0] 49 (0, 0))) := fun w' hB => by
    refine (hB.block _ (by have := HS.out; omega)).trans ?_
    rw [← hW0]; simpa using World.alloc_heap_new (w.alloc (.cells #[] 60)) _
  have hv0 := hv.below (HB0.out.mono hM)
  clear hW0
  have inK : isIn 6 1 7 = true := by decide
  have HCK : Hid (∀ w', Calls Try.prog 24 #[.agg #[], .agg #[.int .i64 6, .int .i64 (fr : Int), .int .i64 (to : Int), .int .i64 (tm : Int), .int .i64 0, .int .i64 0, .int .i64 0, .int .i64 0, .int .i64 (n1 : Int), .bool false, .slice none 0 0, .int .i64 0, .int .i64 0, .slice none 0 0]] w' fun e w'' => e = .returned (.int .i64 (ckM6 (fr : Int) (to : Int) (tm : Int) 0 0 0 0 (n1 : Int) false 0 0 0 0 : Int)) ∧ Below w'.heap.size w' w'') := fun w' => chkM6_any (fr : Int) (to : Int) (tm : Int) 0 0 0 0 (n1 : Int) false none 0 0 0 0 none 0 0 w'
  obtain ⟨CK, hCK⟩ : ∃ CK, ckM6 (fr : Int) (to : Int) (tm : Int) 0 0 0 0 (n1 : Int) false 0 0 0 0 = CK := ⟨_, rfl⟩
  rw [hCK] at hE HCK
  clear hCK
  have HE : Hid (E = if doneE b p1 e1 = 0 then CK else doneE b p1 e1) := hE
  clear hE
  go_enter Try.func25, Try.ntmps25
  go_wp2_with fail
  rw [HW0.out]
  refine (newR_any W0 hv0 hb).mono ?_
  rintro r w1 ⟨R, rfl, h1⟩
  go_wp2_with fail
  refine (getNumber_any h1 H0).mono ?_
  rintro r w2 ⟨rfl, h2⟩
  go_wp2_with (go_at_call 57; refine (isKind_any _ _).mono ?_; rintro e w' ⟨rfl, hw⟩; subst w'; simp only [inK])
  refine (rrI h2 Ha).mono ?_
  rintro r w3 ⟨rfl, h3⟩
  go_wp2_with fail
  refine (rrI h3 Hb).mono ?_
  rintro r w4 ⟨rfl, h4⟩
  go_wp2_with fail
  refine (rrI h4 Hc).mono ?_
  rintro r w5 ⟨rfl, h5⟩
  go_wp2_with fail
  obtain ⟨W6, hW6⟩ : ∃ W6, w5.alloc (.cells #[.int .i64 6, .int .i64 (fr : Int), .int .i64 (to : Int), .int .i64 (tm : Int), .int .i64 0, .int .i64 0, .int .i64 0, .int .i64 0, .int .i64 0, .bool false, .slice none 0 0, .int .i64 0, .int .i64 0, .slice none 0 0] 49) = W6 := ⟨_, rfl⟩
  rw [hW6]
  have hBx : Below w5.heap.size w5 W6 := by rw [← hW6]; exact (Below.refl _ _).alloc (Nat.le_refl _) _
  have hX6 : W6.heap[w5.heap.size]? = some (.cells #[.int .i64 6, .int .i64 (fr : Int), .int .i64 (to : Int), .int .i64 (tm : Int), .int .i64 0, .int .i64 0, .int .i64 0, .int .i64 0, .int .i64 0, .bool false, .slice none 0 0, .int .i64 0, .int .i64 0, .slice none 0 0] 49 (0, 0)) := by rw [← hW6]; exact World.alloc_heap_new w5 _
  have h6 := h5.mono hBx
  clear hW6 hBx
  refine (getU6_any (fr : Int) (to : Int) (tm : Int) h6 hX6 h5.rdr.lt H1).mono ?_
  rintro r w7 ⟨rfl, h7, hX7, -⟩
  obtain ⟨⟨q0, q1, q2, q3, q4, q5, q6, q7, q8, q9, q10, q11, q12, q13⟩, -⟩ := cells14 hX7
  go_wp2_with fail
  refine (wholeM_any 6 (fr : Int) (to : Int) (tm : Int) 0 0 0 0 (n1 : Int) false none 0 0 0 0 none 0 0 R b p1 e1 w7 h7 CK E (fun w' _ => HCK.out w') HE.out).mono ?_
  rintro r w8 ⟨rfl, hB8⟩
  have h8 := h7.mono hB8
  have HR8 : Hid (w8.heap[w.heap.size + 1]? = some (.cells #[.int .i64 0, .int .i64 0, .int .i64 0, .int .i64 0, .int .i64 0, .int .i64 0, .int .i64 0, .int .i64 0, .int .i64 0, .bool false, .slice none 0 0, .int .i64 0, .int .i64 0, .slice none 0 0] 49 (0, 0))) := HR.out w8 h8.bel
  have HF : Hid (Below w.heap.size w w8) := HB0.out.trans (h8.bel.mono HB0.out.size)
  obtain ⟨⟨r0, r1, r2, r3, r4, r5, r6, r7, r8, r9, r10, r11, r12, r13⟩, f0, f1, f2, f3, f4, f5, f6, f7, f8, f9, f10, f11, f12, f13⟩ := cells14 HR8.out
  clear h6 h7 h8 hB8 hX7 hX6 HE HCK h5 h4 h3 h2 h1 q0 q1 q2 q3 q4 q5 q6 q7 q8 q9 q10 q11 q12 q13
  by_cases hE0 : E = 0
  · subst hE0
    simp only [if_true]
    go_wp2
    refine bodyPost_ret (results_95 rfl _ _ (w.heap.size + 1) rfl (set14 HR8.out _ _ _ _ _ _ _ _ _ _ _ _ _ _)) rfl ?_
    exact ⟨rfl, belset14 HF.out (by omega) _ _ _ _ _ _ _ _ _ _ _ _ _ _⟩
  · simp only [hE0, if_false]
    go_wp2
    refine bodyPost_ret (results_95 rfl _ _ (w.heap.size + 1) rfl (set14 HR8.out _ _ _ _ _ _ _ _ _ _ _ _ _ _)) rfl ?_
    exact ⟨by simp, belset14 HF.out (by omega) _ _ _ _ _ _ _ _ _ _ _ _ _ _⟩

set_option maxRecDepth 100000 in
set_option maxHeartbeats 8000000 in
theorem getErr_any (b : List UInt8) (v : Value) (M : Nat) (w : World) (hv : Sl M w v b) (hM : M ≤ w.heap.size) (hb : b.length ≤ 1099511627776) {n p0 e0 : Nat} (H0 : Hid (rdN b (0, 0) = (n, (p0, e0)))) (he : e0 ≠ 0) :
    Calls Try.prog 25 #[.agg #[], v] w fun r w' => r = .returned (.tuple #[.agg #[.int .i64 0, .int .i64 0, .int .i64 0, .int .i64 0, .int .i64 0, .int .i64 0, .int .i64 0, .int .i64 0, .int .i64 0, .bool false, .slice none 0 0, .int .i64 0, .int .i64 0, .slice none 0 0], .int .i64 (e0 : Int)]) ∧ Below w.heap.size w w' := by
  obtain ⟨a, cap, rfl, -⟩ := id hv
  obtain ⟨W0, hW0⟩ : ∃ W0, (w.alloc (.cells #[] 60)).alloc (.cells #[.int .i64 0, .int .i64 0, .int .i64 0, .int .i64 0, .int .i64 0, .int .i64 0, .int .i64 0, .int .i64 0, .int .i64 0, .bool false, .slice none 0 0, .int .i64 0, .int .i64 0, .slice none 0 0] 49) = W0 := ⟨_, rfl⟩
  have HW0 : Hid ((w.alloc (.cells #[] 60)).alloc (.cells #[.int .i64 0, .int .i64 0, .int .i64 0, .int .i64 0, .int .i64 0, .int .i64 0, .int .i64 0, .int .i64 0, .int .i64 0, .bool false, .slice none 0 0, .int .i64 0, .int .i64 0, .slice none 0 0] 49) = W0) := hW0
  have HB0 : Hid (Below w.heap.size w W0) := by show Below w.heap.size w W0; rw [← hW0]; exact (((Below.refl _ w).alloc (by simp) _).alloc (by simp) _)
  have HS : Hid (W0.heap.size = w.heap.size + 2) := by show W0.heap.size = _; rw [← hW0]; simp
  have HR : Hid (∀ w', Below W0.heap.size W0 w' → w'.heap[w.heap.size + 1]? = some (.cells #[.int .i64 0, .int .i64 0, .int .i64 0, .int .i64 0, .int .i64 0, .int .i64 0, .int .i64 0, .int .i64 0, .int .i64 0, .bool false, .slice none 0 0, .int .i64 0, .int .i64 0, .slice none 0 0] 49 (0, 0))) := fun w' hB => by
    refine (hB.block _ (by have := HS.out; omega)).trans ?_
    rw [← hW0]; simpa using World.alloc_heap_new (w.alloc (.cells #[] 60)) _
  have hv0 := hv.below (HB0.out.mono hM)
  clear hW0
  have hke : ((e0 : Int) == 0) = false := by simp; omega
  have hke2 : ((e0 : Int) != 0) = true := by simp; omega
  go_enter Try.func25, Try.ntmps25
  go_wp2_with fail
  rw [HW0.out]
  refine (newR_any W0 hv0 hb).mono ?_
  rintro r w1 ⟨R, rfl, h1⟩
  go_wp2_with fail
  refine (getNumber_any h1 H0).mono ?_
  rintro r w2 ⟨rfl, h2⟩
  have HR2 : Hid (w2.heap[w.heap.size + 1]? = some (.cells #[.int .i64 0, .int .i64 0, .int .i64 0, .int .i64 0, .int .i64 0, .int .i64 0, .int .i64 0, .int .i64 0, .int .i64 0, .bool false, .slice none 0 0, .int .i64 0, .int .i64 0, .slice none 0 0] 49 (0, 0))) := HR.out w2 h2.bel
  have HF : Hid (Below w.heap.size w w2) := HB0.out.trans (h2.bel.mono HB0.out.size)
  obtain ⟨⟨r0, r1, r2, r3, r4, r5, r6, r7, r8, r9, r10, r11, r12, r13⟩, f0, f1, f2, f3, f4, f5, f6, f7, f8, f9, f10, f11, f12, f13⟩ := cells14 HR2.out
  go_wp2
  refine bodyPost_ret (results_95 rfl _ _ (w.heap.size + 1) rfl (set14 HR2.out _ _ _ _ _ _ _ _ _ _ _ _ _ _)) rfl ?_
  exact ⟨rfl, belset14 HF.out (by omega) _ _ _ _ _ _ _ _ _ _ _ _ _ _⟩

set_option maxRecDepth 100000 in
set_option maxHeartbeats 8000000 in
theorem getKind_any (b : List UInt8) (v : Value) (M : Nat) (w : World) (hv : Sl M w v b) (hM : M ≤ w.heap.size) (hb : b.length ≤ 1099511627776) {n p0 e0 : Nat} (H0 : Hid (rdN b (0, 0) = (n, (p0, e0)))) (he : e0 = 0) (hK : isIn (n : Int) 1 7 = false) :
    Calls Try.prog 25 #[.agg #[], v] w fun r w' => r = .returned (.tuple #[.agg #[.int .i64 0, .int .i64 0, .int .i64 0, .int .i64 0, .int .i64 0, .int .i64 0, .int .i64 0, .int .i64 0, .int .i64 0, .bool false, .slice none 0 0, .int .i64 0, .int .i64 0, .slice none 0 0], .int .i64 6]) ∧ Below w.heap.size w w' := by
  obtain ⟨a, cap, rfl, -⟩ := id hv
  obtain ⟨W0, hW0⟩ : ∃ W0, (w.alloc (.cells #[] 60)).alloc (.cells #[.int .i64 0, .int .i64 0, .int .i64 0, .int .i64 0, .int .i64 0, .int .i64 0, .int .i64 0, .int .i64 0, .int .i64 0, .bool false, .slice none 0 0, .int .i64 0, .int .i64 0, .slice none 0 0] 49) = W0 := ⟨_, rfl⟩
  have HW0 : Hid ((w.alloc (.cells #[] 60)).alloc (.cells #[.int .i64 0, .int .i64 0, .int .i64 0, .int .i64 0, .int .i64 0, .int .i64 0, .int .i64 0, .int .i64 0, .int .i64 0, .bool false, .slice none 0 0, .int .i64 0, .int .i64 0, .slice none 0 0] 49) = W0) := hW0
  have HB0 : Hid (Below w.heap.size w W0) := by show Below w.heap.size w W0; rw [← hW0]; exact (((Below.refl _ w).alloc (by simp) _).alloc (by simp) _)
  have HS : Hid (W0.heap.size = w.heap.size + 2) := by show W0.heap.size = _; rw [← hW0]; simp
  have HR : Hid (∀ w', Below W0.heap.size W0 w' → w'.heap[w.heap.size + 1]? = some (.cells #[.int .i64 0, .int .i64 0, .int .i64 0, .int .i64 0, .int .i64 0, .int .i64 0, .int .i64 0, .int .i64 0, .int .i64 0, .bool false, .slice none 0 0, .int .i64 0, .int .i64 0, .slice none 0 0] 49 (0, 0))) := fun w' hB => by
    refine (hB.block _ (by have := HS.out; omega)).trans ?_
    rw [← hW0]; simpa using World.alloc_heap_new (w.alloc (.cells #[] 60)) _
  have hv0 := hv.below (HB0.out.mono hM)
  clear hW0
  subst he
  skip
  go_enter Try.func25, Try.ntmps25
  go_wp2_with fail
  rw [HW0.out]
  refine (newR_any W0 hv0 hb).mono ?_
  rintro r w1 ⟨R, rfl, h1⟩
  go_wp2_with fail
  refine (getNumber_any h1 H0).mono ?_
  rintro r w2 ⟨rfl, h2⟩
  have HR2 : Hid (w2.heap[w.heap.size + 1]? = some (.cells #[.int .i64 0, .int .i64 0, .int .i64 0, .int .i64 0, .int .i64 0, .int .i64 0, .int .i64 0, .int .i64 0, .int .i64 0, .bool false, .slice none 0 0, .int .i64 0, .int .i64 0, .slice none 0 0] 49 (0, 0))) := HR.out w2 h2.bel
  have HF : Hid (Below w.heap.size w w2) := HB0.out.trans (h2.bel.mono HB0.out.size)
  obtain ⟨⟨r0, r1, r2, r3, r4, r5, r6, r7, r8, r9, r10, r11, r12, r13⟩, f0, f1, f2, f3, f4, f5, f6, f7, f8, f9, f10, f11, f12, f13⟩ := cells14 HR2.out
  go_wp2_with (go_at_call 57; refine (isKind_any _ _).mono ?_; rintro e w' ⟨rfl, hw⟩; subst w'; simp only [hK])
  refine bodyPost_ret (results_95 rfl _ _ (w.heap.size + 1) rfl (set14 HR2.out _ _ _ _ _ _ _ _ _ _ _ _ _ _)) rfl ?_
  exact ⟨rfl, belset14 HF.out (by omega) _ _ _ _ _ _ _ _ _ _ _ _ _ _⟩

end Go.Proofs.Ytfnnbfgfmbiabab

