/-
  Get of the plain kinds, the code's and the document's.
-/
import Derived.Test.YtfnnbfgfmbiababGetA
import Derived.Deep.RegionHeld3
namespace Go.Proofs.Ytfnnbfgfmbiabab
open Go.RowKit Go.Shelf

theorem wholeSSnap {w0 : World} {i t : Int} {m : List UInt8} {a : Option Addr} {cap : Nat} {R : Nat} {l : List UInt8} {p e : Nat} {w : World} (h : Rr w0 w R l p e) {E : Nat} (hE : Hid (E = if doneE l p e = 0 then ckSnap i t m.length else doneE l p e)) :
    Calls Try.prog 141 #[.pointer (some ⟨R, 0, none⟩), .iface 145 (.agg #[]), .agg #[.int .i64 i, .int .i64 t, .slice a m.length cap]] w fun r w' =>
      ∃ (z0 : Int) (z1 : Int) (z2a : Option Addr) (z2n : Nat) (z2c : Nat), r = .returned (.tuple #[.agg #[.int .i64 z0, .int .i64 z1, .slice z2a z2n z2c], .int .i64 (E : Int)]) ∧ Hid ((.agg #[.int .i64 z0, .int .i64 z1, .slice z2a z2n z2c] : Value) = if E = 0 then .agg #[.int .i64 i, .int .i64 t, .slice a m.length cap] else .agg #[.int .i64 0, .int .i64 0, .slice none 0 0]) ∧ Rr w0 w' R l p e ∧ Below w.heap.size w w' := by
  refine (wholeSnap_any i t m a cap R l p e w h E hE.out).mono ?_
  rintro r w' ⟨rfl, hB⟩
  by_cases h0 : E = 0
  · rw [if_pos h0]; exact ⟨_, _, _, _, _, rfl, rfl, h.mono hB, hB⟩
  · rw [if_neg h0]; exact ⟨0, 0, none, 0, 0, rfl, rfl, h.mono hB, hB⟩
set_option maxRecDepth 100000 in
set_option maxHeartbeats 2000000 in
theorem getSnap_any (b : List UInt8) (v : Value) (M : Nat) (w : World) (hv : Sl M w v b) (hM : M ≤ w.heap.size) (hb : b.length ≤ 1099511627776) : Calls Try.prog 139 #[.agg #[], v] w fun r w' =>
    ∃ u, r = .returned (.tuple #[.agg #[.int .i64 ((goSnap b).1 : Int), .int .i64 ((goSnap b).2.1 : Int), u], .int .i64 (geSnap b : Int)]) ∧ Ow w.heap.size w' u (goSnap b).2.2 ∧ Below w.heap.size w w' := by
  obtain ⟨a, cap, rfl, -⟩ := id hv
  obtain ⟨W0, hW0⟩ : ∃ W0, (w.alloc (.cells #[] 145)).alloc (.cells #[.int .i64 0, .int .i64 0, .slice none 0 0] 47) = W0 := ⟨_, rfl⟩
  have HW0 : Hid ((w.alloc (.cells #[] 145)).alloc (.cells #[.int .i64 0, .int .i64 0, .slice none 0 0] 47) = W0) := hW0
  have HB0 : Hid (Below w.heap.size w W0) := by show Below w.heap.size w W0; rw [← hW0]; exact (((Below.refl _ w).alloc (by simp) _).alloc (by simp) _)
  have HS : Hid (W0.heap.size = w.heap.size + 2) := by show W0.heap.size = _; rw [← hW0]; simp
  have HR : Hid (W0.heap[w.heap.size + 1]? = some (.cells #[.int .i64 0, .int .i64 0, .slice none 0 0] 47 (0, 0))) := by
    show W0.heap[w.heap.size + 1]? = _
    rw [← hW0]; simpa using World.alloc_heap_new (w.alloc (.cells #[] 145)) _
  have hv0 := hv.below (HB0.out.mono hM)
  clear hW0
  unfold goSnap geSnap rdSnap
  obtain ⟨n1, a1, e1, H1⟩ : ∃ n1 a1 e1, Hid (rdN b (0, 0) = (n1, (a1, e1))) := ⟨_, _, _, rfl⟩
  obtain ⟨n2, a2, e2, H2⟩ : ∃ n2 a2 e2, Hid (rdN b (a1, e1) = (n2, (a2, e2))) := ⟨_, _, _, rfl⟩
  obtain ⟨n3, a3, e3, H3⟩ : ∃ n3 a3 e3, Hid (rdB b 524288 (a2, e2) = (n3, (a3, e3))) := ⟨_, _, _, rfl⟩
  simp only [H1.out, H2.out, H3.out]
  obtain ⟨E, hE⟩ : ∃ E, E = if doneE b a3 e3 = 0 then ckSnap (n1 : Int) (n2 : Int) (n3).length else doneE b a3 e3 := ⟨_, rfl⟩
  rw [← hE]
  have HE : Hid (E = if doneE b a3 e3 = 0 then ckSnap (n1 : Int) (n2 : Int) (n3).length else doneE b a3 e3) := hE
  clear hE
  obtain ⟨g, HG⟩ : ∃ g, Hid ((if E = 0 then (n1, n2, n3) else (0, 0, [])) = g) := ⟨_, rfl⟩
  rw [HG.out]
  go_enter Try.func139, Try.ntmps139
  go_wp2_with fail
  rw [HW0.out]
  refine (newR_any W0 hv0 hb).mono ?_
  rintro r w1 ⟨R, rfl, h1⟩
  go_wp2_with fail
  have h1' : Rr W0 w1.drew R b 0 0 := h1.mono ⟨rfl, rfl, rfl, Nat.le_refl _, fun _ _ => rfl⟩
  go_region_held3 (fun _ => True) (trivial)
    (first | (go_at_call 67; refine (rrI (by assumption) (by assumption)).mono ?_; rintro r w2 ⟨rfl, h2⟩)
           | (go_at_call 107; refine (rrB (by assumption) (by assumption)).mono ?_; rintro r w4 ⟨vv, rfl, hO4, h4, hz4⟩; obtain ⟨av, cv, hvv, -, -⟩ := hO4.shape; subst hvv)
           | (go_at_call 141; refine (wholeSSnap (by assumption) HE).mono ?_; rintro r w5 ⟨z0, z1, z2a, z2n, z2c, rfl, HZ, h5, hB5⟩; have HR5 : Hid (w5.heap[w.heap.size + 1]? = some (.cells #[.int .i64 0, .int .i64 0, .slice none 0 0] 47 (0, 0))) := (h5.bel.block _ (by have := HS.out; omega)).trans HR.out; obtain ⟨⟨r0, r1, r2⟩, f0, f1, f2⟩ := cells3 HR5.out))
  go_wp2
  refine bodyPost_ret (results_57 rfl _ _ (w.heap.size + 1) rfl (set3 HR5.out _ _ _)) rfl ?_
  have hg := HG.out
  have hz := HZ.out
  by_cases h0 : E = 0
  · rw [if_pos h0] at hg hz
    subst hg
    have hO5 := (hO4.below hB5 (Nat.le_refl _)).base (N' := w.heap.size) (by have := HB0.out.size; have := h2.bel.size; omega)
    have hO6 := hO5.kept (grownset3 w5 (w.heap.size + 1) (.int .i64 z0) (.int .i64 z1) (.slice z2a z2n z2c)) (.inr (hO5.not_at HR5.out (by decide)))
    refine ⟨_, ?_, hO6, belset3 (HB0.out.trans (h5.bel.mono HB0.out.size)) (by omega) _ _ _⟩
    show Ending.returned (.tuple #[.agg #[.int .i64 z0, .int .i64 z1, .slice z2a z2n z2c], .int .i64 (E : Int)]) = _
    rw [hz]
  · rw [if_neg h0] at hg hz
    subst hg
    refine ⟨.slice none 0 0, ?_, Ow.nil _ _, belset3 (HB0.out.trans (h5.bel.mono HB0.out.size)) (by omega) _ _ _⟩
    show Ending.returned (.tuple #[.agg #[.int .i64 z0, .int .i64 z1, .slice z2a z2n z2c], .int .i64 (E : Int)]) = _
    rw [hz]
    rfl

theorem wholeSEntry {w0 : World} {t i k : Int} {m : List UInt8} {a : Option Addr} {cap : Nat} {R : Nat} {l : List UInt8} {p e : Nat} {w : World} (h : Rr w0 w R l p e) {E : Nat} (hE : Hid (E = if doneE l p e = 0 then ckEntry t i k m.length else doneE l p e)) :
    Calls Try.prog 128 #[.pointer (some ⟨R, 0, none⟩), .iface 31 (.agg #[]), .agg #[.int .i64 t, .int .i64 i, .int .i64 k, .slice a m.length cap]] w fun r w' =>
      ∃ (z0 : Int) (z1 : Int) (z2 : Int) (z3a : Option Addr) (z3n : Nat) (z3c : Nat), r = .returned (.tuple #[.agg #[.int .i64 z0, .int .i64 z1, .int .i64 z2, .slice z3a z3n z3c], .int .i64 (E : Int)]) ∧ Hid ((.agg #[.int .i64 z0, .int .i64 z1, .int .i64 z2, .slice z3a z3n z3c] : Value) = if E = 0 then .agg #[.int .i64 t, .int .i64 i, .int .i64 k, .slice a m.length cap] else .agg #[.int .i64 0, .int .i64 0, .int .i64 0, .slice none 0 0]) ∧ Rr w0 w' R l p e ∧ Below w.heap.size w w' := by
  refine (wholeEntry_any t i k m a cap R l p e w h E hE.out).mono ?_
  rintro r w' ⟨rfl, hB⟩
  by_cases h0 : E = 0
  · rw [if_pos h0]; exact ⟨_, _, _, _, _, _, rfl, rfl, h.mono hB, hB⟩
  · rw [if_neg h0]; exact ⟨0, 0, 0, none, 0, 0, rfl, rfl, h.mono hB, hB⟩
set_option maxRecDepth 100000 in
set_option maxHeartbeats 2000000 in
theorem getEntry_any (b : List UInt8) (v : Value) (M : Nat) (w : World) (hv : Sl M w v b) (hM : M ≤ w.heap.size) (hb : b.length ≤ 1099511627776) : Calls Try.prog 127 #[.agg #[], v] w fun r w' =>
    ∃ u, r = .returned (.tuple #[.agg #[.int .i64 ((goEntry b).1 : Int), .int .i64 ((goEntry b).2.1 : Int), .int .i64 ((goEntry b).2.2.1 : Int), u], .int .i64 (geEntry b : Int)]) ∧ Ow w.heap.size w' u (goEntry b).2.2.2 ∧ Below w.heap.size w w' := by
  obtain ⟨a, cap, rfl, -⟩ := id hv
  obtain ⟨W0, hW0⟩ : ∃ W0, (w.alloc (.cells #[] 31)).alloc (.cells #[.int .i64 0, .int .i64 0, .int .i64 0, .slice none 0 0] 26) = W0 := ⟨_, rfl⟩
  have HW0 : Hid ((w.alloc (.cells #[] 31)).alloc (.cells #[.int .i64 0, .int .i64 0, .int .i64 0, .slice none 0 0] 26) = W0) := hW0
  have HB0 : Hid (Below w.heap.size w W0) := by show Below w.heap.size w W0; rw [← hW0]; exact (((Below.refl _ w).alloc (by simp) _).alloc (by simp) _)
  have HS : Hid (W0.heap.size = w.heap.size + 2) := by show W0.heap.size = _; rw [← hW0]; simp
  have HR : Hid (W0.heap[w.heap.size + 1]? = some (.cells #[.int .i64 0, .int .i64 0, .int .i64 0, .slice none 0 0] 26 (0, 0))) := by
    show W0.heap[w.heap.size + 1]? = _
    rw [← hW0]; simpa using World.alloc_heap_new (w.alloc (.cells #[] 31)) _
  have hv0 := hv.below (HB0.out.mono hM)
  clear hW0
  unfold goEntry geEntry rdEntry
  obtain ⟨n1, a1, e1, H1⟩ : ∃ n1 a1 e1, Hid (rdN b (0, 0) = (n1, (a1, e1))) := ⟨_, _, _, rfl⟩
  obtain ⟨n2, a2, e2, H2⟩ : ∃ n2 a2 e2, Hid (rdN b (a1, e1) = (n2, (a2, e2))) := ⟨_, _, _, rfl⟩
  obtain ⟨n3, a3, e3, H3⟩ : ∃ n3 a3 e3, Hid (rdN b (a2, e2) = (n3, (a3, e3))) := ⟨_, _, _, rfl⟩
  obtain ⟨n4, a4, e4, H4⟩ : ∃ n4 a4 e4, Hid (rdB b 4096 (a3, e3) = (n4, (a4, e4))) := ⟨_, _, _, rfl⟩
  simp only [H1.out, H2.out, H3.out, H4.out]
  obtain ⟨E, hE⟩ : ∃ E, E = if doneE b a4 e4 = 0 then ckEntry (n1 : Int) (n2 : Int) (n3 : Int) (n4).length else doneE b a4 e4 := ⟨_, rfl⟩
  rw [← hE]
  have HE : Hid (E = if doneE b a4 e4 = 0 then ckEntry (n1 : Int) (n2 : Int) (n3 : Int) (n4).length else doneE b a4 e4) := hE
  clear hE
  obtain ⟨g, HG⟩ : ∃ g, Hid ((if E = 0 then (n1, n2, n3, n4) else (0, 0, 0, [])) = g) := ⟨_, rfl⟩
  rw [HG.out]
  go_enter Try.func127, Try.ntmps127
  go_wp2_with fail
  rw [HW0.out]
  refine (newR_any W0 hv0 hb).mono ?_
  rintro r w1 ⟨R, rfl, h1⟩
  go_wp2_with fail
  have h1' : Rr W0 w1.drew R b 0 0 := h1.mono ⟨rfl, rfl, rfl, Nat.le_refl _, fun _ _ => rfl⟩
  go_region_held3 (fun _ => True) (trivial)
    (first | (go_at_call 67; refine (rrI (by assumption) (by assumption)).mono ?_; rintro r w2 ⟨rfl, h2⟩)
           | (go_at_call 107; refine (rrB (by assumption) (by assumption)).mono ?_; rintro r w4 ⟨vv, rfl, hO4, h4, hz4⟩; obtain ⟨av, cv, hvv, -, -⟩ := hO4.shape; subst hvv)
           | (go_at_call 128; refine (wholeSEntry (by assumption) HE).mono ?_; rintro r w5 ⟨z0, z1, z2, z3a, z3n, z3c, rfl, HZ, h5, hB5⟩; have HR5 : Hid (w5.heap[w.heap.size + 1]? = some (.cells #[.int .i64 0, .int .i64 0, .int .i64 0, .slice none 0 0] 26 (0, 0))) := (h5.bel.block _ (by have := HS.out; omega)).trans HR.out; obtain ⟨⟨r0, r1, r2, r3⟩, f0, f1, f2, f3⟩ := cells4 HR5.out))
  go_wp2
  refine bodyPost_ret (results_24 rfl _ _ (w.heap.size + 1) rfl (set4 HR5.out _ _ _ _)) rfl ?_
  have hg := HG.out
  have hz := HZ.out
  by_cases h0 : E = 0
  · rw [if_pos h0] at hg hz
    subst hg
    have hO5 := (hO4.below hB5 (Nat.le_refl _)).base (N' := w.heap.size) (by have := HB0.out.size; have := h2.bel.size; omega)
    have hO6 := hO5.kept (grownset4 w5 (w.heap.size + 1) (.int .i64 z0) (.int .i64 z1) (.int .i64 z2) (.slice z3a z3n z3c)) (.inr (hO5.not_at HR5.out (by decide)))
    refine ⟨_, ?_, hO6, belset4 (HB0.out.trans (h5.bel.mono HB0.out.size)) (by omega) _ _ _ _⟩
    show Ending.returned (.tuple #[.agg #[.int .i64 z0, .int .i64 z1, .int .i64 z2, .slice z3a z3n z3c], .int .i64 (E : Int)]) = _
    rw [hz]
  · rw [if_neg h0] at hg hz
    subst hg
    refine ⟨.slice none 0 0, ?_, Ow.nil _ _, belset4 (HB0.out.trans (h5.bel.mono HB0.out.size)) (by omega) _ _ _ _⟩
    show Ending.returned (.tuple #[.agg #[.int .i64 z0, .int .i64 z1, .int .i64 z2, .slice z3a z3n z3c], .int .i64 (E : Int)]) = _
    rw [hz]
    rfl

set_option maxRecDepth 100000 in
set_option maxHeartbeats 2000000 in
theorem refGetEntry_any (b : List UInt8) (v : Value) (M : Nat) (w : World) (hv : Sl M w v b) (hM : M ≤ w.heap.size) (hb : b.length ≤ 20000) : Calls Try.prog 41 #[v] w fun r w' =>
    ∃ u, r = .returned (.tuple #[.agg #[.int .i64 ((goEntry b).1 : Int), .int .i64 ((goEntry b).2.1 : Int), .int .i64 ((goEntry b).2.2.1 : Int), u], .int .i64 (geEntry b : Int)]) ∧ Sl w'.heap.size w' u (goEntry b).2.2.2 ∧ Below w.heap.size w w' := by
  obtain ⟨a, cap, rfl, -⟩ := id hv
  have hB0 : Below w.heap.size w (w.alloc (.cells #[.int .i64 0, .int .i64 0, .int .i64 0, .slice none 0 0] 26)) := (Below.refl _ w).alloc (Nat.le_refl _) _
  have hq := newQ (hv.below (hB0.mono hM)) (by simp; omega) hb
  simp only [World.size_alloc] at hq
  have HR : Hid ((w.alloc (.cells #[.int .i64 0, .int .i64 0, .int .i64 0, .slice none 0 0] 26)).heap[w.heap.size]? = some (.cells #[.int .i64 0, .int .i64 0, .int .i64 0, .slice none 0 0] 26 (0, 0))) := World.alloc_heap_new w _
  have HB0 : Hid (Below w.heap.size w (w.alloc (.cells #[.int .i64 0, .int .i64 0, .int .i64 0, .slice none 0 0] 26))) := hB0
  clear hB0
  unfold goEntry geEntry rdEntry
  obtain ⟨n1, a1, e1, H1⟩ : ∃ n1 a1 e1, Hid (rdN b (0, 0) = (n1, (a1, e1))) := ⟨_, _, _, rfl⟩
  obtain ⟨n2, a2, e2, H2⟩ : ∃ n2 a2 e2, Hid (rdN b (a1, e1) = (n2, (a2, e2))) := ⟨_, _, _, rfl⟩
  obtain ⟨n3, a3, e3, H3⟩ : ∃ n3 a3 e3, Hid (rdN b (a2, e2) = (n3, (a3, e3))) := ⟨_, _, _, rfl⟩
  obtain ⟨n4, a4, e4, H4⟩ : ∃ n4 a4 e4, Hid (rdB b 4096 (a3, e3) = (n4, (a4, e4))) := ⟨_, _, _, rfl⟩
  simp only [H1.out, H2.out, H3.out, H4.out]
  obtain ⟨E, hE⟩ : ∃ E, E = if doneE b a4 e4 = 0 then ckEntry (n1 : Int) (n2 : Int) (n3 : Int) (n4).length else doneE b a4 e4 := ⟨_, rfl⟩
  rw [← hE]
  have HE : Hid (E = if doneE b a4 e4 = 0 then ckEntry (n1 : Int) (n2 : Int) (n3 : Int) (n4).length else doneE b a4 e4) := hE
  clear hE
  obtain ⟨g, HG⟩ : ∃ g, Hid ((if E = 0 then (n1, n2, n3, n4) else (0, 0, 0, [])) = g) := ⟨_, rfl⟩
  rw [HG.out]
  go_enter Try.func41, Try.ntmps41
  go_wp2_with fail
  refine (rqI hq H1).mono ?_
  rintro r w2 ⟨rfl, h2⟩
  go_wp2_with fail
  refine (rqI h2 H2).mono ?_
  rintro r w3 ⟨rfl, h3⟩
  go_wp2_with fail
  refine (rqI h3 H3).mono ?_
  rintro r w4 ⟨rfl, h4⟩
  go_wp2_with fail
  refine (rqB h4 H4).mono ?_
  rintro r w5 ⟨vv, rfl, hS, h5⟩
  obtain ⟨av, cv, hvv, -⟩ := id hS
  subst hvv
  go_wp2_with fail
  have hBx : Below w5.heap.size w5 (w5.alloc (.cells #[.int .i64 (n1 : Int), .int .i64 (n2 : Int), .int .i64 (n3 : Int), .slice av n4.length cv] 26)) := (Below.refl _ _).alloc (Nat.le_refl _) _
  have HX : Hid ((w5.alloc (.cells #[.int .i64 (n1 : Int), .int .i64 (n2 : Int), .int .i64 (n3 : Int), .slice av n4.length cv] 26)).heap[w5.heap.size]? = some (.cells #[.int .i64 (n1 : Int), .int .i64 (n2 : Int), .int .i64 (n3 : Int), .slice av n4.length cv] 26 (0, 0))) := World.alloc_heap_new w5 _
  have hx := h5.mono hBx
  refine (rqDone_any hx).mono ?_
  rintro r w8 ⟨rfl, hB8⟩
  have hx8 := hx.mono hB8
  have ck1 := fun w' => refCkEntry_any (n1 : Int) (n2 : Int) (n3 : Int) av n4.length cv w'
  have HX8 : Hid (w8.heap[w5.heap.size]? = some (.cells #[.int .i64 (n1 : Int), .int .i64 (n2 : Int), .int .i64 (n3 : Int), .slice av n4.length cv] 26 (0, 0))) := (hB8.block _ (by simp)).trans HX.out
  have HR8 : Hid (w8.heap[w.heap.size]? = some (.cells #[.int .i64 0, .int .i64 0, .int .i64 0, .slice none 0 0] 26 (0, 0))) := (hx8.bel.block _ (by simp)).trans HR.out
  have HL : Hid (w5.heap.size < w8.heap.size) := by have := hB8.size; show w5.heap.size < w8.heap.size; simp at this; omega
  have HZ8 : Hid (w.heap.size < w8.heap.size) := by have := hx8.bel.size; show w.heap.size < w8.heap.size; simp at this; omega
  have HB8 : Hid (Below w.heap.size w w8) := HB0.out.trans (hx8.bel.mono (by simp))
  have hS8 := (hS.below hBx).below (hB8.mono (by simp))
  clear hx hx8 hBx
  by_cases he : doneE b a4 e4 = 0
  · have hE := HE.out
    rw [if_pos he] at hE
    rw [← hE] at ck1
    rw [he]
    obtain ⟨⟨q0, q1, q2, q3⟩, -⟩ := cells4 HX8.out
    go_wp2_with fail
    refine (ck1 w8).mono ?_
    rintro r w9 ⟨rfl, hB9⟩
    have HX9 : Hid (w9.heap[w5.heap.size]? = some (.cells #[.int .i64 (n1 : Int), .int .i64 (n2 : Int), .int .i64 (n3 : Int), .slice av n4.length cv] 26 (0, 0))) := (hB9.block _ HL.out).trans HX8.out
    have HR9 : Hid (w9.heap[w.heap.size]? = some (.cells #[.int .i64 0, .int .i64 0, .int .i64 0, .slice none 0 0] 26 (0, 0))) := (hB9.block _ HZ8.out).trans HR8.out
    have HF : Hid (Below w.heap.size w w9) := HB8.out.trans (hB9.mono HB8.out.size)
    obtain ⟨⟨q0, q1, q2, q3⟩, -⟩ := cells4 HX9.out
    obtain ⟨⟨r0, r1, r2, r3⟩, f0, f1, f2, f3⟩ := cells4 HR9.out
    clear ck1 hE
    by_cases hEn : E = 0
    · rw [if_pos hEn] at HG
      have hg := HG.out
      subst hg
      subst hEn
      go_wp2
      refine bodyPost_ret (results_24 rfl _ _ w.heap.size rfl (set4 HR9.out _ _ _ _)) rfl ?_
      have hS9 := hS8.below (hB9.mono (by have := HL.out; omega))
      refine ⟨.slice av n4.length cv, rfl, ?_, belset4 HF.out (by omega) _ _ _ _⟩
      exact (hS9.grow (by have := hB9.size; have := HL.out; omega) (grownset4 w9 w.heap.size _ _ _ _) (hS9.not_at HR9.out (by intro i b; match i with | 0 | 1 | 2 | 3 => simp [encB] | _ + 4 => simp)))
    · have hke : ((E : Int) != 0) = true := by simp; omega
      rw [if_neg hEn] at HG
      have hg := HG.out
      subst hg
      go_wp2
      refine bodyPost_ret (results_24 rfl _ _ w.heap.size rfl (set4 HR9.out _ _ _ _)) rfl ?_
      exact ⟨.slice none 0 0, rfl, Sl.nil _ _, belset4 HF.out (by omega) _ _ _ _⟩
  · have hE := HE.out
    rw [if_neg he] at hE
    rw [← hE]
    have hEn : ¬ E = 0 := by omega
    have hke : ((E : Int) == 0) = false := by simp; omega
    have hke2 : ((E : Int) != 0) = true := by simp; omega
    rw [if_neg hEn] at HG
    have hg := HG.out
    subst hg
    obtain ⟨⟨r0, r1, r2, r3⟩, f0, f1, f2, f3⟩ := cells4 HR8.out
    clear ck1 hE
    go_wp2
    refine bodyPost_ret (results_24 rfl _ _ w.heap.size rfl (set4 HR8.out _ _ _ _)) rfl ?_
    exact ⟨.slice none 0 0, rfl, Sl.nil _ _, belset4 HB8.out (by omega) _ _ _ _⟩

end Go.Proofs.Ytfnnbfgfmbiabab
