/-
  Get of the plain kinds, the code's and the document's.
-/
import Derived.Test.YtfnnbfgfmbiababWhole
import Derived.Deep.RegionHeld3
namespace Go.Proofs.Ytfnnbfgfmbiabab
open Go.RowKit Go.Shelf

theorem rrI {w0 w : World} {R : Nat} {l : List UInt8} {a e n a' e' : Nat} (h : Rr w0 w R l a e) (hr : Hid (rdN l (a, e) = (n, (a', e')))) :
    Calls Try.prog 67 #[.pointer (some ⟨R, 0, none⟩)] w fun r w' => r = .returned (.int .i64 (n : Int)) ∧ Rr w0 w' R l a' e' := rrInt_any h hr.out
theorem rrB {w0 w : World} {R : Nat} {l t : List UInt8} {a e a' e' : Nat} {most : Int} (h : Rr w0 w R l a e) (hr : Hid (rdB l most (a, e) = (t, (a', e')))) :
    Calls Try.prog 107 #[.pointer (some ⟨R, 0, none⟩), .int .i64 most] w fun r w' => ∃ v, r = .returned v ∧ Ow w.heap.size w' v t ∧ Rr w0 w' R l a' e' ∧ w.heap.size ≤ w'.heap.size := rrBytes_any most h hr.out
theorem rrT {w0 w : World} {R : Nat} {l t : List UInt8} {a e a' e' : Nat} {most : Int} (h : Rr w0 w R l a e) (hr : Hid (rdB l most (a, e) = (t, (a', e')))) :
    Calls Try.prog 135 #[.pointer (some ⟨R, 0, none⟩), .int .i64 most] w fun r w' => r = .returned (.string ⟨t.toArray⟩) ∧ Rr w0 w' R l a' e' := rrText_any most h hr.out
theorem rqI {w0 w : World} {Q : Nat} {v : Value} {l : List UInt8} {a e n a' e' : Nat} (h : Rq w0 w Q v l a e) (hr : Hid (rdN l (a, e) = (n, (a', e')))) :
    Calls Try.prog 81 #[.pointer (some ⟨Q, 0, none⟩)] w fun r w' => r = .returned (.int .i64 (n : Int)) ∧ Rq w0 w' Q v l a' e' := rqInt_any h hr.out
theorem rqB {w0 w : World} {Q : Nat} {v : Value} {l t : List UInt8} {a e a' e' : Nat} {most : Int} (h : Rq w0 w Q v l a e) (hr : Hid (rdB l most (a, e) = (t, (a', e')))) :
    Calls Try.prog 83 #[.pointer (some ⟨Q, 0, none⟩), .int .i64 most] w fun r w' => ∃ u, r = .returned u ∧ Sl w'.heap.size w' u t ∧ Rq w0 w' Q v l a' e' := rqBytes_any most h hr.out
theorem wholeSState {w0 : World} {t v c : Int} {R : Nat} {l : List UInt8} {p e : Nat} {w : World} (h : Rr w0 w R l p e) {E : Nat} (hE : Hid (E = if doneE l p e = 0 then ckState t v c else doneE l p e)) :
    Calls Try.prog 130 #[.pointer (some ⟨R, 0, none⟩), .iface 56 (.agg #[]), .agg #[.int .i64 t, .int .i64 v, .int .i64 c]] w fun r w' =>
      ∃ (z0 : Int) (z1 : Int) (z2 : Int), r = .returned (.tuple #[.agg #[.int .i64 z0, .int .i64 z1, .int .i64 z2], .int .i64 (E : Int)]) ∧ Hid ((.agg #[.int .i64 z0, .int .i64 z1, .int .i64 z2] : Value) = if E = 0 then .agg #[.int .i64 t, .int .i64 v, .int .i64 c] else .agg #[.int .i64 0, .int .i64 0, .int .i64 0]) ∧ Rr w0 w' R l p e ∧ Below w.heap.size w w' := by
  refine (wholeState_any t v c R l p e w h E hE.out).mono ?_
  rintro r w' ⟨rfl, hB⟩
  by_cases h0 : E = 0
  · rw [if_pos h0]; exact ⟨_, _, _, rfl, rfl, h.mono hB, hB⟩
  · rw [if_neg h0]; exact ⟨0, 0, 0, rfl, rfl, h.mono hB, hB⟩
set_option maxRecDepth 100000 in
set_option maxHeartbeats 2000000 in
theorem getState_any (b : List UInt8) (v : Value) (M : Nat) (w : World) (hv : Sl M w v b) (hM : M ≤ w.heap.size) (hb : b.length ≤ 1099511627776) : Calls Try.prog 129 #[.agg #[], v] w fun r w' =>
    r = .returned (.tuple #[.agg #[.int .i64 ((goState b).1 : Int), .int .i64 ((goState b).2.1 : Int), .int .i64 ((goState b).2.2 : Int)], .int .i64 (geState b : Int)]) ∧ Below w.heap.size w w' := by
  obtain ⟨a, cap, rfl, -⟩ := id hv
  obtain ⟨W0, hW0⟩ : ∃ W0, (w.alloc (.cells #[] 56)).alloc (.cells #[.int .i64 0, .int .i64 0, .int .i64 0] 43) = W0 := ⟨_, rfl⟩
  have HW0 : Hid ((w.alloc (.cells #[] 56)).alloc (.cells #[.int .i64 0, .int .i64 0, .int .i64 0] 43) = W0) := hW0
  have HB0 : Hid (Below w.heap.size w W0) := by show Below w.heap.size w W0; rw [← hW0]; exact (((Below.refl _ w).alloc (by simp) _).alloc (by simp) _)
  have HS : Hid (W0.heap.size = w.heap.size + 2) := by show W0.heap.size = _; rw [← hW0]; simp
  have HR : Hid (W0.heap[w.heap.size + 1]? = some (.cells #[.int .i64 0, .int .i64 0, .int .i64 0] 43 (0, 0))) := by
    show W0.heap[w.heap.size + 1]? = _
    rw [← hW0]; simpa using World.alloc_heap_new (w.alloc (.cells #[] 56)) _
  have hv0 := hv.below (HB0.out.mono hM)
  clear hW0
  unfold goState geState rdState
  obtain ⟨n1, a1, e1, H1⟩ : ∃ n1 a1 e1, Hid (rdN b (0, 0) = (n1, (a1, e1))) := ⟨_, _, _, rfl⟩
  obtain ⟨n2, a2, e2, H2⟩ : ∃ n2 a2 e2, Hid (rdN b (a1, e1) = (n2, (a2, e2))) := ⟨_, _, _, rfl⟩
  obtain ⟨n3, a3, e3, H3⟩ : ∃ n3 a3 e3, Hid (rdN b (a2, e2) = (n3, (a3, e3))) := ⟨_, _, _, rfl⟩
  simp only [H1.out, H2.out, H3.out]
  obtain ⟨E, hE⟩ : ∃ E, E = if doneE b a3 e3 = 0 then ckState (n1 : Int) (n2 : Int) (n3 : Int) else doneE b a3 e3 := ⟨_, rfl⟩
  rw [← hE]
  have HE : Hid (E = if doneE b a3 e3 = 0 then ckState (n1 : Int) (n2 : Int) (n3 : Int) else doneE b a3 e3) := hE
  clear hE
  obtain ⟨g, HG⟩ : ∃ g, Hid ((if E = 0 then (n1, n2, n3) else (0, 0, 0)) = g) := ⟨_, rfl⟩
  rw [HG.out]
  go_enter Try.func129, Try.ntmps129
  go_wp2_with fail
  rw [HW0.out]
  refine (newR_any W0 hv0 hb).mono ?_
  rintro r w1 ⟨R, rfl, h1⟩
  go_wp2_with fail
  have h1' : Rr W0 w1.drew R b 0 0 := h1.mono ⟨rfl, rfl, rfl, Nat.le_refl _, fun _ _ => rfl⟩
  go_region_held3 (fun _ => True) (trivial)
    (first | (go_at_call 67; refine (rrI (by assumption) (by assumption)).mono ?_; rintro r w2 ⟨rfl, h2⟩)
           | (go_at_call 130; refine (wholeSState (by assumption) HE).mono ?_; rintro r w5 ⟨z0, z1, z2, rfl, HZ, h5, hB5⟩; have HR5 : Hid (w5.heap[w.heap.size + 1]? = some (.cells #[.int .i64 0, .int .i64 0, .int .i64 0] 43 (0, 0))) := (h5.bel.block _ (by have := HS.out; omega)).trans HR.out; obtain ⟨⟨r0, r1, r2⟩, f0, f1, f2⟩ := cells3 HR5.out))
  go_wp2
  refine bodyPost_ret (results_45 rfl _ _ (w.heap.size + 1) rfl (set3 HR5.out _ _ _)) rfl ?_
  refine ⟨?_, belset3 (HB0.out.trans (h5.bel.mono HB0.out.size)) (by omega) _ _ _⟩
  show Ending.returned (.tuple #[.agg #[.int .i64 z0, .int .i64 z1, .int .i64 z2], .int .i64 (E : Int)]) = _
  rw [HZ.out, ← HG.out]
  by_cases h0 : E = 0
  · simp [h0]
  · simp [h0]

end Go.Proofs.Ytfnnbfgfmbiabab
