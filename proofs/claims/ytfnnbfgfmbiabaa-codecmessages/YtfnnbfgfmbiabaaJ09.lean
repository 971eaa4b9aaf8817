/-
  GetA.
-/
import Derived.Test.YtfnnbfgfmbiabaaJ08
import Derived.Deep.RegionHeld3
/-
  Get of the plain kinds, the code's and the document's.
-/
namespace Go.Proofs.Ytfnnbfgfmbiabaa
open Go.RowKit Go.Shelf

theorem rrI {w0 w : World} {R : Nat} {l : List UInt8} {a e n a' e' : Nat} (h : Rr w0 w R l a e) (hr : Hid (rdN l (a, e) = (n, (a', e')))) :
    Calls Try.prog 66 #[.pointer (some ⟨R, 0, none⟩)] w fun r w' => r = .returned (.int .i64 (n : Int)) ∧ Rr w0 w' R l a' e' := rrInt_any h hr.out
theorem rrB {w0 w : World} {R : Nat} {l t : List UInt8} {a e a' e' : Nat} {most : Int} (h : Rr w0 w R l a e) (hr : Hid (rdB l most (a, e) = (t, (a', e')))) :
    Calls Try.prog 67 #[.pointer (some ⟨R, 0, none⟩), .int .i64 most] w fun r w' => ∃ v, r = .returned v ∧ Ow w.heap.size w' v t ∧ Rr w0 w' R l a' e' ∧ w.heap.size ≤ w'.heap.size := rrBytes_any most h hr.out
theorem rrT {w0 w : World} {R : Nat} {l t : List UInt8} {a e a' e' : Nat} {most : Int} (h : Rr w0 w R l a e) (hr : Hid (rdB l most (a, e) = (t, (a', e')))) :
    Calls Try.prog 78 #[.pointer (some ⟨R, 0, none⟩), .int .i64 most] w fun r w' => r = .returned (.string ⟨t.toArray⟩) ∧ Rr w0 w' R l a' e' := rrText_any most h hr.out
theorem rqI {w0 w : World} {Q : Nat} {v : Value} {l : List UInt8} {a e n a' e' : Nat} (h : Rq w0 w Q v l a e) (hr : Hid (rdN l (a, e) = (n, (a', e')))) :
    Calls Try.prog 68 #[.pointer (some ⟨Q, 0, none⟩)] w fun r w' => r = .returned (.int .i64 (n : Int)) ∧ Rq w0 w' Q v l a' e' := rqInt_any h hr.out
theorem rqB {w0 w : World} {Q : Nat} {v : Value} {l t : List UInt8} {a e a' e' : Nat} {most : Int} (h : Rq w0 w Q v l a e) (hr : Hid (rdB l most (a, e) = (t, (a', e')))) :
    Calls Try.prog 69 #[.pointer (some ⟨Q, 0, none⟩), .int .i64 most] w fun r w' => ∃ u, r = .returned u ∧ Sl w'.heap.size w' u t ∧ Rq w0 w' Q v l a' e' := rqBytes_any most h hr.out
theorem rqT {w0 w : World} {Q : Nat} {v : Value} {l t : List UInt8} {a e a' e' : Nat} {most : Int} (h : Rq w0 w Q v l a e) (hr : Hid (rdB l most (a, e) = (t, (a', e')))) :
    Calls Try.prog 79 #[.pointer (some ⟨Q, 0, none⟩), .int .i64 most] w fun r w' => r = .returned (.string ⟨t.toArray⟩) ∧ Rq w0 w' Q v l a' e' := rqText_any most h hr.out

theorem wholeSState {w0 : World} {t v c : Int} {R : Nat} {l : List UInt8} {p e : Nat} {w : World} (h : Rr w0 w R l p e) {E : Nat} (hE : Hid (E = if doneE l p e = 0 then ckState t v c else doneE l p e)) :
    Calls Try.prog 71 #[.pointer (some ⟨R, 0, none⟩), .iface 46 (.agg #[]), .agg #[.int .i64 t, .int .i64 v, .int .i64 c]] w fun r w' =>
      ∃ (z0 : Int) (z1 : Int) (z2 : Int), r = .returned (.tuple #[.agg #[.int .i64 z0, .int .i64 z1, .int .i64 z2], .int .i64 (E : Int)]) ∧ Hid ((.agg #[.int .i64 z0, .int .i64 z1, .int .i64 z2] : Value) = if E = 0 then .agg #[.int .i64 t, .int .i64 v, .int .i64 c] else .agg #[.int .i64 0, .int .i64 0, .int .i64 0]) ∧ Rr w0 w' R l p e ∧ Below w.heap.size w w' := by
  refine (wholeState_any t v c R l p e w h E hE.out).mono ?_
  rintro r w' ⟨rfl, hB⟩
  by_cases h0 : E = 0
  · rw [if_pos h0]; exact ⟨_, _, _, rfl, rfl, h.mono hB, hB⟩
  · rw [if_neg h0]; exact ⟨0, 0, 0, rfl, rfl, h.mono hB, hB⟩
set_option maxRecDepth 100000 in
set_option maxHeartbeats 2000000 in
theorem getState_any (b : List UInt8) (v : Value) (M : Nat) (w : World) (hv : Sl M w v b) (hM : M ≤ w.heap.size) (hb : b.length ≤ 1099511627776) : Calls Try.prog 25 #[.agg #[], v] w fun r w' =>
    r = .returned (.tuple #[.agg #[.int .i64 ((goState b).1 : Int), .int .i64 ((goState b).2.1 : Int), .int .i64 ((goState b).2.2 : Int)], .int .i64 (geState b : Int)]) ∧ Below w.heap.size w w' := by
  obtain ⟨a, cap, rfl, -⟩ := id hv
  obtain ⟨W0, hW0⟩ : ∃ W0, (w.alloc (.cells #[] 46)).alloc (.cells #[.int .i64 0, .int .i64 0, .int .i64 0] 45) = W0 := ⟨_, rfl⟩
  have HW0 : Hid ((w.alloc (.cells #[] 46)).alloc (.cells #[.int .i64 0, .int .i64 0, .int .i64 0] 45) = W0) := hW0
  have HB0 : Hid (Below w.heap.size w W0) := by show Below w.heap.size w W0; rw [← hW0]; exact (((Below.refl _ w).alloc (by simp) _).alloc (by simp) _)
  have HS : Hid (W0.heap.size = w.heap.size + 2) := by show W0.heap.size = _; rw [← hW0]; simp
  have HR : Hid (W0.heap[w.heap.size + 1]? = some (.cells #[.int .i64 0, .int .i64 0, .int .i64 0] 45 (0, 0))) := by
    show W0.heap[w.heap.size + 1]? = _
    rw [← hW0]; simpa using World.alloc_heap_new (w.alloc (.cells #[] 46)) _
  have hv0 := hv.below (HB0.out.mono hM)
  clear hW0
  unfold goState geState rdState
  obtain ⟨n1, a1, e1, H1⟩ : ∃ n1 a1 e1, Hid (rdN b (0, 0) = (n1, (a1, e1))) := ⟨_, _, _, rfl⟩
  obtain ⟨n2, a2, e2, H2⟩ : ∃ n2 a2 e2, Hid (rdN b (a1, e1) = (n2, (a2, e2))) := ⟨_, _, _, rfl⟩
  obtain ⟨n3, a3, e3, H3⟩ : ∃ n3 a3 e3, Hid (rdN b (a2, e2) = (n3, (a3, e3))) := ⟨_, _, _, rfl⟩
  simp only [H1.out, H2.out, H3.out]
  obtain ⟨E, hE⟩ : ∃ E, E = if doneE b a3 e3 = 0 then ckState (n1 : Int) (n2 : Int) (n3 : Int) else doneE b a3 e3 := ⟨_, rfl⟩
  rw [← hE]
  have HE : Hid (E = if doneE b a3 e3 = 0 then ckState (n1 : Int) (n2 : Int) (n3 : Int) else doneE b a3 e3) := hE
  clear hE
  obtain ⟨g, HG⟩ : ∃ g, Hid ((if E = 0 then (n1, n2, n3) else (0, 0, 0)) = g) := ⟨_, rfl⟩
  rw [HG.out]
  go_enter Try.func25, Try.ntmps25
  go_wp2_with fail
  rw [HW0.out]
  refine (newR_any W0 hv0 hb).mono ?_
  rintro r w1 ⟨R, rfl, h1⟩
  go_wp2_with fail
  have h1' : Rr W0 w1.drew R b 0 0 := h1.mono ⟨rfl, rfl, rfl, Nat.le_refl _, fun _ _ => rfl⟩
  go_region_held3 (fun _ => True) (trivial)
    (first | (go_at_call 66; refine (rrI (by assumption) (by assumption)).mono ?_; rintro r w2 ⟨rfl, h2⟩)
           | (go_at_call 71; refine (wholeSState (by assumption) HE).mono ?_; rintro r w5 ⟨z0, z1, z2, rfl, HZ, h5, hB5⟩; have HR5 : Hid (w5.heap[w.heap.size + 1]? = some (.cells #[.int .i64 0, .int .i64 0, .int .i64 0] 45 (0, 0))) := (h5.bel.block _ (by have := HS.out; omega)).trans HR.out; obtain ⟨⟨r0, r1, r2⟩, f0, f1, f2⟩ := cells3 HR5.out))
  go_wp2
  refine bodyPost_ret (results_45 rfl _ _ (w.heap.size + 1) rfl (set3 HR5.out _ _ _)) rfl ?_
  refine ⟨?_, belset3 (HB0.out.trans (h5.bel.mono HB0.out.size)) (by omega) _ _ _⟩
  show Ending.returned (.tuple #[.agg #[.int .i64 z0, .int .i64 z1, .int .i64 z2], .int .i64 (E : Int)]) = _
  rw [HZ.out, ← HG.out]
  by_cases h0 : E = 0
  · simp [h0]
  · simp [h0]

set_option maxRecDepth 100000 in
set_option maxHeartbeats 2000000 in
theorem refGetState_any (b : List UInt8) (v : Value) (M : Nat) (w : World) (hv : Sl M w v b) (hM : M ≤ w.heap.size) (hb : b.length ≤ 20000) : Calls Try.prog 26 #[v] w fun r w' =>
    r = .returned (.tuple #[.agg #[.int .i64 ((goState b).1 : Int), .int .i64 ((goState b).2.1 : Int), .int .i64 ((goState b).2.2 : Int)], .int .i64 (geState b : Int)]) ∧ Below w.heap.size w w' := by
  obtain ⟨a, cap, rfl, -⟩ := id hv
  have hB0 : Below w.heap.size w (w.alloc (.cells #[.int .i64 0, .int .i64 0, .int .i64 0] 45)) := (Below.refl _ w).alloc (Nat.le_refl _) _
  have hq := newQ (hv.below (hB0.mono hM)) (by simp; omega) hb
  simp only [World.size_alloc] at hq
  have HR : Hid ((w.alloc (.cells #[.int .i64 0, .int .i64 0, .int .i64 0] 45)).heap[w.heap.size]? = some (.cells #[.int .i64 0, .int .i64 0, .int .i64 0] 45 (0, 0))) := World.alloc_heap_new w _
  have HB0 : Hid (Below w.heap.size w (w.alloc (.cells #[.int .i64 0, .int .i64 0, .int .i64 0] 45))) := hB0
  clear hB0
  unfold goState geState rdState
  obtain ⟨n1, a1, e1, H1⟩ : ∃ n1 a1 e1, Hid (rdN b (0, 0) = (n1, (a1, e1))) := ⟨_, _, _, rfl⟩
  obtain ⟨n2, a2, e2, H2⟩ : ∃ n2 a2 e2, Hid (rdN b (a1, e1) = (n2, (a2, e2))) := ⟨_, _, _, rfl⟩
  obtain ⟨n3, a3, e3, H3⟩ : ∃ n3 a3 e3, Hid (rdN b (a2, e2) = (n3, (a3, e3))) := ⟨_, _, _, rfl⟩
  simp only [H1.out, H2.out, H3.out]
  obtain ⟨E, hE⟩ : ∃ E, E = if doneE b a3 e3 = 0 then ckState (n1 : Int) (n2 : Int) (n3 : Int) else doneE b a3 e3 := ⟨_, rfl⟩
  rw [← hE]
  have HE : Hid (E = if doneE b a3 e3 = 0 then ckState (n1 : Int) (n2 : Int) (n3 : Int) else doneE b a3 e3) := hE
  clear hE
  obtain ⟨g, HG⟩ : ∃ g, Hid ((if E = 0 then (n1, n2, n3) else (0, 0, 0)) = g) := ⟨_, rfl⟩
  rw [HG.out]
  go_enter Try.func26, Try.ntmps26
  go_wp2_with fail
  refine (rqI hq H1).mono ?_
  rintro r w2 ⟨rfl, h2⟩
  go_wp2_with fail
  refine (rqI h2 H2).mono ?_
  rintro r w3 ⟨rfl, h3⟩
  go_wp2_with fail
  refine (rqI h3 H3).mono ?_
  rintro r w4 ⟨rfl, h4⟩
  go_wp2_with fail
  have hBx : Below w4.heap.size w4 (w4.alloc (.cells #[.int .i64 (n1 : Int), .int .i64 (n2 : Int), .int .i64 (n3 : Int)] 45)) := (Below.refl _ _).alloc (Nat.le_refl _) _
  have HX : Hid ((w4.alloc (.cells #[.int .i64 (n1 : Int), .int .i64 (n2 : Int), .int .i64 (n3 : Int)] 45)).heap[w4.heap.size]? = some (.cells #[.int .i64 (n1 : Int), .int .i64 (n2 : Int), .int .i64 (n3 : Int)] 45 (0, 0))) := World.alloc_heap_new w4 _
  have hx := h4.mono hBx
  refine (rqDone_any hx).mono ?_
  rintro r w8 ⟨rfl, hB8⟩
  have hx8 := hx.mono hB8
  have ck1 := fun w' => refCkState_any (n1 : Int) (n2 : Int) (n3 : Int) w'
  have HX8 : Hid (w8.heap[w4.heap.size]? = some (.cells #[.int .i64 (n1 : Int), .int .i64 (n2 : Int), .int .i64 (n3 : Int)] 45 (0, 0))) := (hB8.block _ (by simp)).trans HX.out
  have HR8 : Hid (w8.heap[w.heap.size]? = some (.cells #[.int .i64 0, .int .i64 0, .int .i64 0] 45 (0, 0))) := (hx8.bel.block _ (by simp)).trans HR.out
  have HL : Hid (w4.heap.size < w8.heap.size) := by have := hB8.size; show w4.heap.size < w8.heap.size; simp at this; omega
  have HZ8 : Hid (w.heap.size < w8.heap.size) := by have := hx8.bel.size; show w.heap.size < w8.heap.size; simp at this; omega
  have HB8 : Hid (Below w.heap.size w w8) := HB0.out.trans (hx8.bel.mono (by simp))
  clear hx hx8 hBx
  by_cases he : doneE b a3 e3 = 0
  · have hE := HE.out
    rw [if_pos he] at hE
    rw [← hE] at ck1
    rw [he]
    obtain ⟨⟨q0, q1, q2⟩, -⟩ := cells3 HX8.out
    go_wp2_with fail
    refine (ck1 w8).mono ?_
    rintro r w9 ⟨rfl, hB9⟩
    have HX9 : Hid (w9.heap[w4.heap.size]? = some (.cells #[.int .i64 (n1 : Int), .int .i64 (n2 : Int), .int .i64 (n3 : Int)] 45 (0, 0))) := (hB9.block _ HL.out).trans HX8.out
    have HR9 : Hid (w9.heap[w.heap.size]? = some (.cells #[.int .i64 0, .int .i64 0, .int .i64 0] 45 (0, 0))) := (hB9.block _ HZ8.out).trans HR8.out
    have HF : Hid (Below w.heap.size w w9) := HB8.out.trans (hB9.mono HB8.out.size)
    obtain ⟨⟨q0, q1, q2⟩, -⟩ := cells3 HX9.out
    obtain ⟨⟨r0, r1, r2⟩, f0, f1, f2⟩ := cells3 HR9.out
    clear ck1 hE
    by_cases hEn : E = 0
    · rw [if_pos hEn] at HG
      have hg := HG.out
      subst hg
      subst hEn
      go_wp2
      refine bodyPost_ret (results_45 rfl _ _ w.heap.size rfl (set3 HR9.out _ _ _)) rfl ?_
      exact ⟨by simp, belset3 HF.out (by omega) _ _ _⟩
    · have hke : ((E : Int) != 0) = true := by simp; omega
      rw [if_neg hEn] at HG
      have hg := HG.out
      subst hg
      go_wp2
      refine bodyPost_ret (results_45 rfl _ _ w.heap.size rfl (set3 HR9.out _ _ _)) rfl ?_
      exact ⟨by simp, belset3 HF.out (by omega) _ _ _⟩
  · have hE := HE.out
    rw [if_neg he] at hE
    rw [← hE]
    have hEn : ¬ E = 0 := by omega
    have hke : ((E : Int) == 0) = false := by simp; omega
    have hke2 : ((E : Int) != 0) = true := by simp; omega
    rw [if_neg hEn] at HG
    have hg := HG.out
    subst hg
    obtain ⟨⟨r0, r1, r2⟩, f0, f1, f2⟩ := cells3 HR8.out
    clear ck1 hE
    go_wp2
    refine bodyPost_ret (results_45 rfl _ _ w.heap.size rfl (set3 HR8.out _ _ _)) rfl ?_
    exact ⟨by simp, belset3 HB8.out (by omega) _ _ _⟩

theorem wholeSReply {w0 : World} {c : Int} {m : List UInt8} {R : Nat} {l : List UInt8} {p e : Nat} {w : World} (h : Rr w0 w R l p e) {E : Nat} (hE : Hid (E = if doneE l p e = 0 then ckReply c m.length else doneE l p e)) :
    Calls Try.prog 80 #[.pointer (some ⟨R, 0, none⟩), .iface 83 (.agg #[]), .agg #[.int .i64 c, .string ⟨m.toArray⟩]] w fun r w' =>
      ∃ (z0 : Int) (z1 : List UInt8), r = .returned (.tuple #[.agg #[.int .i64 z0, .string ⟨z1.toArray⟩], .int .i64 (E : Int)]) ∧ Hid ((.agg #[.int .i64 z0, .string ⟨z1.toArray⟩] : Value) = if E = 0 then .agg #[.int .i64 c, .string ⟨m.toArray⟩] else .agg #[.int .i64 0, .string ⟨#[]⟩]) ∧ Rr w0 w' R l p e ∧ Below w.heap.size w w' := by
  refine (wholeReply_any c m R l p e w h E hE.out).mono ?_
  rintro r w' ⟨rfl, hB⟩
  by_cases h0 : E = 0
  · rw [if_pos h0]; exact ⟨_, _, rfl, rfl, h.mono hB, hB⟩
  · rw [if_neg h0]; exact ⟨0, [], rfl, rfl, h.mono hB, hB⟩
set_option maxRecDepth 100000 in
set_option maxHeartbeats 2000000 in
theorem getReply_any (b : List UInt8) (v : Value) (M : Nat) (w : World) (hv : Sl M w v b) (hM : M ≤ w.heap.size) (hb : b.length ≤ 1099511627776) : Calls Try.prog 44 #[.agg #[], v] w fun r w' =>
    r = .returned (.tuple #[.agg #[.int .i64 ((goReply b).1 : Int), .string ⟨((goReply b).2).toArray⟩], .int .i64 (geReply b : Int)]) ∧ Below w.heap.size w w' := by
  obtain ⟨a, cap, rfl, -⟩ := id hv
  obtain ⟨W0, hW0⟩ : ∃ W0, (w.alloc (.cells #[] 83)).alloc (.cells #[.int .i64 0, .string ⟨#[]⟩] 82) = W0 := ⟨_, rfl⟩
  have HW0 : Hid ((w.alloc (.cells #[] 83)).alloc (.cells #[.int .i64 0, .string ⟨#[]⟩] 82) = W0) := hW0
  have HB0 : Hid (Below w.heap.size w W0) := by show Below w.heap.size w W0; rw [← hW0]; exact (((Below.refl _ w).alloc (by simp) _).alloc (by simp) _)
  have HS : Hid (W0.heap.size = w.heap.size + 2) := by show W0.heap.size = _; rw [← hW0]; simp
  have HR : Hid (W0.heap[w.heap.size + 1]? = some (.cells #[.int .i64 0, .string ⟨#[]⟩] 82 (0, 0))) := by
    show W0.heap[w.heap.size + 1]? = _
    rw [← hW0]; simpa using World.alloc_heap_new (w.alloc (.cells #[] 83)) _
  have hv0 := hv.below (HB0.out.mono hM)
  clear hW0
  unfold goReply geReply rdReply
  obtain ⟨n1, a1, e1, H1⟩ : ∃ n1 a1 e1, Hid (rdN b (0, 0) = (n1, (a1, e1))) := ⟨_, _, _, rfl⟩
  obtain ⟨n2, a2, e2, H2⟩ : ∃ n2 a2 e2, Hid (rdB b 1024 (a1, e1) = (n2, (a2, e2))) := ⟨_, _, _, rfl⟩
  simp only [H1.out, H2.out]
  obtain ⟨E, hE⟩ : ∃ E, E = if doneE b a2 e2 = 0 then ckReply (n1 : Int) (n2).length else doneE b a2 e2 := ⟨_, rfl⟩
  rw [← hE]
  have HE : Hid (E = if doneE b a2 e2 = 0 then ckReply (n1 : Int) (n2).length else doneE b a2 e2) := hE
  clear hE
  obtain ⟨g, HG⟩ : ∃ g, Hid ((if E = 0 then (n1, n2) else (0, [])) = g) := ⟨_, rfl⟩
  rw [HG.out]
  go_enter Try.func44, Try.ntmps44
  go_wp2_with fail
  rw [HW0.out]
  refine (newR_any W0 hv0 hb).mono ?_
  rintro r w1 ⟨R, rfl, h1⟩
  go_wp2_with fail
  have h1' : Rr W0 w1.drew R b 0 0 := h1.mono ⟨rfl, rfl, rfl, Nat.le_refl _, fun _ _ => rfl⟩
  go_region_held3 (fun _ => True) (trivial)
    (first | (go_at_call 66; refine (rrI (by assumption) (by assumption)).mono ?_; rintro r w2 ⟨rfl, h2⟩)
           | (go_at_call 78; refine (rrT (by assumption) (by assumption)).mono ?_; rintro r w4 ⟨rfl, h4⟩)
           | (go_at_call 80; refine (wholeSReply (by assumption) HE).mono ?_; rintro r w5 ⟨z0, z1, rfl, HZ, h5, hB5⟩; have HR5 : Hid (w5.heap[w.heap.size + 1]? = some (.cells #[.int .i64 0, .string ⟨#[]⟩] 82 (0, 0))) := (h5.bel.block _ (by have := HS.out; omega)).trans HR.out; obtain ⟨⟨r0, r1⟩, f0, f1⟩ := cells2 HR5.out))
  go_wp2
  refine bodyPost_ret (results_82 rfl _ _ (w.heap.size + 1) rfl (set2 HR5.out _ _)) rfl ?_
  refine ⟨?_, belset2 (HB0.out.trans (h5.bel.mono HB0.out.size)) (by omega) _ _⟩
  show Ending.returned (.tuple #[.agg #[.int .i64 z0, .string ⟨z1.toArray⟩], .int .i64 (E : Int)]) = _
  rw [HZ.out, ← HG.out]
  by_cases h0 : E = 0
  · simp [h0]
  · simp [h0]

set_option maxRecDepth 100000 in
set_option maxHeartbeats 2000000 in
theorem refGetReply_any (b : List UInt8) (v : Value) (M : Nat) (w : World) (hv : Sl M w v b) (hM : M ≤ w.heap.size) (hb : b.length ≤ 20000) : Calls Try.prog 45 #[v] w fun r w' =>
    r = .returned (.tuple #[.agg #[.int .i64 ((goReply b).1 : Int), .string ⟨((goReply b).2).toArray⟩], .int .i64 (geReply b : Int)]) ∧ Below w.heap.size w w' := by
  obtain ⟨a, cap, rfl, -⟩ := id hv
  have hB0 : Below w.heap.size w (w.alloc (.cells #[.int .i64 0, .string ⟨#[]⟩] 82)) := (Below.refl _ w).alloc (Nat.le_refl _) _
  have hq := newQ (hv.below (hB0.mono hM)) (by simp; omega) hb
  simp only [World.size_alloc] at hq
  have HR : Hid ((w.alloc (.cells #[.int .i64 0, .string ⟨#[]⟩] 82)).heap[w.heap.size]? = some (.cells #[.int .i64 0, .string ⟨#[]⟩] 82 (0, 0))) := World.alloc_heap_new w _
  have HB0 : Hid (Below w.heap.size w (w.alloc (.cells #[.int .i64 0, .string ⟨#[]⟩] 82))) := hB0
  clear hB0
  unfold goReply geReply rdReply
  obtain ⟨n1, a1, e1, H1⟩ : ∃ n1 a1 e1, Hid (rdN b (0, 0) = (n1, (a1, e1))) := ⟨_, _, _, rfl⟩
  obtain ⟨n2, a2, e2, H2⟩ : ∃ n2 a2 e2, Hid (rdB b 1024 (a1, e1) = (n2, (a2, e2))) := ⟨_, _, _, rfl⟩
  simp only [H1.out, H2.out]
  obtain ⟨E, hE⟩ : ∃ E, E = if doneE b a2 e2 = 0 then ckReply (n1 : Int) (n2).length else doneE b a2 e2 := ⟨_, rfl⟩
  rw [← hE]
  have HE : Hid (E = if doneE b a2 e2 = 0 then ckReply (n1 : Int) (n2).length else doneE b a2 e2) := hE
  clear hE
  obtain ⟨g, HG⟩ : ∃ g, Hid ((if E = 0 then (n1, n2) else (0, [])) = g) := ⟨_, rfl⟩
  rw [HG.out]
  go_enter Try.func45, Try.ntmps45
  go_wp2_with fail
  refine (rqI hq H1).mono ?_
  rintro r w2 ⟨rfl, h2⟩
  go_wp2_with fail
  refine (rqT h2 H2).mono ?_
  rintro r w3 ⟨rfl, h3⟩
  go_wp2_with fail
  have hBx : Below w3.heap.size w3 (w3.alloc (.cells #[.int .i64 (n1 : Int), .string ⟨n2.toArray⟩] 82)) := (Below.refl _ _).alloc (Nat.le_refl _) _
  have HX : Hid ((w3.alloc (.cells #[.int .i64 (n1 : Int), .string ⟨n2.toArray⟩] 82)).heap[w3.heap.size]? = some (.cells #[.int .i64 (n1 : Int), .string ⟨n2.toArray⟩] 82 (0, 0))) := World.alloc_heap_new w3 _
  have hx := h3.mono hBx
  refine (rqDone_any hx).mono ?_
  rintro r w8 ⟨rfl, hB8⟩
  have hx8 := hx.mono hB8
  have ck1 := fun w' => refCkReply_any (n1 : Int) n2 w'
  have HX8 : Hid (w8.heap[w3.heap.size]? = some (.cells #[.int .i64 (n1 : Int), .string ⟨n2.toArray⟩] 82 (0, 0))) := (hB8.block _ (by simp)).trans HX.out
  have HR8 : Hid (w8.heap[w.heap.size]? = some (.cells #[.int .i64 0, .string ⟨#[]⟩] 82 (0, 0))) := (hx8.bel.block _ (by simp)).trans HR.out
  have HL : Hid (w3.heap.size < w8.heap.size) := by have := hB8.size; show w3.heap.size < w8.heap.size; simp at this; omega
  have HZ8 : Hid (w.heap.size < w8.heap.size) := by have := hx8.bel.size; show w.heap.size < w8.heap.size; simp at this; omega
  have HB8 : Hid (Below w.heap.size w w8) := HB0.out.trans (hx8.bel.mono (by simp))
  clear hx hx8 hBx
  by_cases he : doneE b a2 e2 = 0
  · have hE := HE.out
    rw [if_pos he] at hE
    rw [← hE] at ck1
    rw [he]
    obtain ⟨⟨q0, q1⟩, -⟩ := cells2 HX8.out
    go_wp2_with fail
    refine (ck1 w8).mono ?_
    rintro r w9 ⟨rfl, hB9⟩
    have HX9 : Hid (w9.heap[w3.heap.size]? = some (.cells #[.int .i64 (n1 : Int), .string ⟨n2.toArray⟩] 82 (0, 0))) := (hB9.block _ HL.out).trans HX8.out
    have HR9 : Hid (w9.heap[w.heap.size]? = some (.cells #[.int .i64 0, .string ⟨#[]⟩] 82 (0, 0))) := (hB9.block _ HZ8.out).trans HR8.out
    have HF : Hid (Below w.heap.size w w9) := HB8.out.trans (hB9.mono HB8.out.size)
    obtain ⟨⟨q0, q1⟩, -⟩ := cells2 HX9.out
    obtain ⟨⟨r0, r1⟩, f0, f1⟩ := cells2 HR9.out
    clear ck1 hE
    by_cases hEn : E = 0
    · rw [if_pos hEn] at HG
      have hg := HG.out
      subst hg
      subst hEn
      go_wp2
      refine bodyPost_ret (results_82 rfl _ _ w.heap.size rfl (set2 HR9.out _ _)) rfl ?_
      exact ⟨by simp, belset2 HF.out (by omega) _ _⟩
    · have hke : ((E : Int) != 0) = true := by simp; omega
      rw [if_neg hEn] at HG
      have hg := HG.out
      subst hg
      go_wp2
      refine bodyPost_ret (results_82 rfl _ _ w.heap.size rfl (set2 HR9.out _ _)) rfl ?_
      exact ⟨by simp, belset2 HF.out (by omega) _ _⟩
  · have hE := HE.out
    rw [if_neg he] at hE
    rw [← hE]
    have hEn : ¬ E = 0 := by omega
    have hke : ((E : Int) == 0) = false := by simp; omega
    have hke2 : ((E : Int) != 0) = true := by simp; omega
    rw [if_neg hEn] at HG
    have hg := HG.out
    subst hg
    obtain ⟨⟨r0, r1⟩, f0, f1⟩ := cells2 HR8.out
    clear ck1 hE
    go_wp2
    refine bodyPost_ret (results_82 rfl _ _ w.heap.size rfl (set2 HR8.out _ _)) rfl ?_
    exact ⟨by simp, belset2 HB8.out (by omega) _ _⟩

end Go.Proofs.Ytfnnbfgfmbiabaa

