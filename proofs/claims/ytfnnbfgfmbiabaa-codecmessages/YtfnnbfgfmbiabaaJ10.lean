/-
  GetB; MsgA; MsgR.
-/
import Derived.Test.YtfnnbfgfmbiabaaJ09
import Derived.Deep.RegionHeld3
import Derived.Handy
/-
  Get of the plain kinds, the code's and the document's.
-/
namespace Go.Proofs.Ytfnnbfgfmbiabaa
open Go.RowKit Go.Shelf

theorem wholeSSnap {w0 : World} {i t : Int} {m : List UInt8} {a : Option Addr} {cap : Nat} {R : Nat} {l : List UInt8} {p e : Nat} {w : World} (h : Rr w0 w R l p e) {E : Nat} (hE : Hid (E = if doneE l p e = 0 then ckSnap i t m.length else doneE l p e)) :
    Calls Try.prog 74 #[.pointer (some ⟨R, 0, none⟩), .iface 58 (.agg #[]), .agg #[.int .i64 i, .int .i64 t, .slice a m.length cap]] w fun r w' =>
      ∃ (z0 : Int) (z1 : Int) (z2a : Option Addr) (z2n : Nat) (z2c : Nat), r = .returned (.tuple #[.agg #[.int .i64 z0, .int .i64 z1, .slice z2a z2n z2c], .int .i64 (E : Int)]) ∧ Hid ((.agg #[.int .i64 z0, .int .i64 z1, .slice z2a z2n z2c] : Value) = if E = 0 then .agg #[.int .i64 i, .int .i64 t, .slice a m.length cap] else .agg #[.int .i64 0, .int .i64 0, .slice none 0 0]) ∧ Rr w0 w' R l p e ∧ Below w.heap.size w w' := by
  refine (wholeSnap_any i t m a cap R l p e w h E hE.out).mono ?_
  rintro r w' ⟨rfl, hB⟩
  by_cases h0 : E = 0
  · rw [if_pos h0]; exact ⟨_, _, _, _, _, rfl, rfl, h.mono hB, hB⟩
  · rw [if_neg h0]; exact ⟨0, 0, none, 0, 0, rfl, rfl, h.mono hB, hB⟩
set_option maxRecDepth 100000 in
set_option maxHeartbeats 2000000 in
theorem getSnap_any (b : List UInt8) (v : Value) (M : Nat) (w : World) (hv : Sl M w v b) (hM : M ≤ w.heap.size) (hb : b.length ≤ 1099511627776) : Calls Try.prog 31 #[.agg #[], v] w fun r w' =>
    ∃ u, r = .returned (.tuple #[.agg #[.int .i64 ((goSnap b).1 : Int), .int .i64 ((goSnap b).2.1 : Int), u], .int .i64 (geSnap b : Int)]) ∧ Ow w.heap.size w' u (goSnap b).2.2 ∧ Below w.heap.size w w' := by
  obtain ⟨a, cap, rfl, -⟩ := id hv
  obtain ⟨W0, hW0⟩ : ∃ W0, (w.alloc (.cells #[] 58)).alloc (.cells #[.int .i64 0, .int .i64 0, .slice none 0 0] 57) = W0 := ⟨_, rfl⟩
  have HW0 : Hid ((w.alloc (.cells #[] 58)).alloc (.cells #[.int .i64 0, .int .i64 0, .slice none 0 0] 57) = W0) := hW0
  have HB0 : Hid (Below w.heap.size w W0) := by show Below w.heap.size w W0; rw [← hW0]; exact (((Below.refl _ w).alloc (by simp) _).alloc (by simp) _)
  have HS : Hid (W0.heap.size = w.heap.size + 2) := by show W0.heap.size = _; rw [← hW0]; simp
  have HR : Hid (W0.heap[w.heap.size + 1]? = some (.cells #[.int .i64 0, .int .i64 0, .slice none 0 0] 57 (0, 0))) := by
    show W0.heap[w.heap.size + 1]? = _
    rw [← hW0]; simpa using World.alloc_heap_new (w.alloc (.cells #[] 58)) _
  have hv0 := hv.below (HB0.out.mono hM)
  clear hW0
  unfold goSnap geSnap rdSnap
  obtain ⟨n1, a1, e1, H1⟩ : ∃ n1 a1 e1, Hid (rdN b (0, 0) = (n1, (a1, e1))) := ⟨_, _, _, rfl⟩
  obtain ⟨n2, a2, e2, H2⟩ : ∃ n2 a2 e2, Hid (rdN b (a1, e1) = (n2, (a2, e2))) := ⟨_, _, _, rfl⟩
  obtain ⟨n3, a3, e3, H3⟩ : ∃ n3 a3 e3, Hid (rdB b 524288 (a2, e2) = (n3, (a3, e3))) := ⟨_, _, _, rfl⟩
  simp only [H1.out, H2.out, H3.out]
  obtain ⟨E, hE⟩ : ∃ E, E = if doneE b a3 e3 = 0 then ckSnap (n1 : Int) (n2 : Int) (n3).length else doneE b a3 e3 := ⟨_, rfl⟩
  rw [← hE]
  have HE : Hid (E = if doneE b a3 e3 = 0 then ckSnap (n1 : Int) (n2 : Int) (n3).length else doneE b a3 e3) := hE
  clear hE
  obtain ⟨g, HG⟩ : ∃ g, Hid ((if E = 0 then (n1, n2, n3) else (0, 0, [])) = g) := ⟨_, rfl⟩
  rw [HG.out]
  go_enter Try.func31, Try.ntmps31
  go_wp2_with fail
  rw [HW0.out]
  refine (newR_any W0 hv0 hb).mono ?_
  rintro r w1 ⟨R, rfl, h1⟩
  go_wp2_with fail
  have h1' : Rr W0 w1.drew R b 0 0 := h1.mono ⟨rfl, rfl, rfl, Nat.le_refl _, fun _ _ => rfl⟩
  go_region_held3 (fun _ => True) (trivial)
    (first | (go_at_call 66; refine (rrI (by assumption) (by assumption)).mono ?_; rintro r w2 ⟨rfl, h2⟩)
           | (go_at_call 67; refine (rrB (by assumption) (by assumption)).mono ?_; rintro r w4 ⟨vv, rfl, hO4, h4, hz4⟩; obtain ⟨av, cv, hvv, -, -⟩ := hO4.shape; subst hvv)
           | (go_at_call 74; refine (wholeSSnap (by assumption) HE).mono ?_; rintro r w5 ⟨z0, z1, z2a, z2n, z2c, rfl, HZ, h5, hB5⟩; have HR5 : Hid (w5.heap[w.heap.size + 1]? = some (.cells #[.int .i64 0, .int .i64 0, .slice none 0 0] 57 (0, 0))) := (h5.bel.block _ (by have := HS.out; omega)).trans HR.out; obtain ⟨⟨r0, r1, r2⟩, f0, f1, f2⟩ := cells3 HR5.out))
  go_wp2
  refine bodyPost_ret (results_57 rfl _ _ (w.heap.size + 1) rfl (set3 HR5.out _ _ _)) rfl ?_
  have hg := HG.out
  have hz := HZ.out
  by_cases h0 : E = 0
  · rw [if_pos h0] at hg hz
    subst hg
    have hO5 := (hO4.below hB5 (Nat.le_refl _)).base (N' := w.heap.size) (by have := HB0.out.size; have := h2.bel.size; omega)
    have hO6 := hO5.kept (grownset3 w5 (w.heap.size + 1) (.int .i64 z0) (.int .i64 z1) (.slice z2a z2n z2c)) (.inr (hO5.not_at HR5.out (by decide)))
    refine ⟨_, ?_, hO6, belset3 (HB0.out.trans (h5.bel.mono HB0.out.size)) (by omega) _ _ _⟩
    show Ending.returned (.tuple #[.agg #[.int .i64 z0, .int .i64 z1, .slice z2a z2n z2c], .int .i64 (E : Int)]) = _
    rw [hz]
  · rw [if_neg h0] at hg hz
    subst hg
    refine ⟨.slice none 0 0, ?_, Ow.nil _ _, belset3 (HB0.out.trans (h5.bel.mono HB0.out.size)) (by omega) _ _ _⟩
    show Ending.returned (.tuple #[.agg #[.int .i64 z0, .int .i64 z1, .slice z2a z2n z2c], .int .i64 (E : Int)]) = _
    rw [hz]
    rfl

set_option maxRecDepth 100000 in
set_option maxHeartbeats 2000000 in
theorem refGetSnap_any (b : List UInt8) (v : Value) (M : Nat) (w : World) (hv : Sl M w v b) (hM : M ≤ w.heap.size) (hb : b.length ≤ 20000) : Calls Try.prog 32 #[v] w fun r w' =>
    ∃ u, r = .returned (.tuple #[.agg #[.int .i64 ((goSnap b).1 : Int), .int .i64 ((goSnap b).2.1 : Int), u], .int .i64 (geSnap b : Int)]) ∧ Sl w'.heap.size w' u (goSnap b).2.2 ∧ Below w.heap.size w w' := by
  obtain ⟨a, cap, rfl, -⟩ := id hv
  have hB0 : Below w.heap.size w (w.alloc (.cells #[.int .i64 0, .int .i64 0, .slice none 0 0] 57)) := (Below.refl _ w).alloc (Nat.le_refl _) _
  have hq := newQ (hv.below (hB0.mono hM)) (by simp; omega) hb
  simp only [World.size_alloc] at hq
  have HR : Hid ((w.alloc (.cells #[.int .i64 0, .int .i64 0, .slice none 0 0] 57)).heap[w.heap.size]? = some (.cells #[.int .i64 0, .int .i64 0, .slice none 0 0] 57 (0, 0))) := World.alloc_heap_new w _
  have HB0 : Hid (Below w.heap.size w (w.alloc (.cells #[.int .i64 0, .int .i64 0, .slice none 0 0] 57))) := hB0
  clear hB0
  unfold goSnap geSnap rdSnap
  obtain ⟨n1, a1, e1, H1⟩ : ∃ n1 a1 e1, Hid (rdN b (0, 0) = (n1, (a1, e1))) := ⟨_, _, _, rfl⟩
  obtain ⟨n2, a2, e2, H2⟩ : ∃ n2 a2 e2, Hid (rdN b (a1, e1) = (n2, (a2, e2))) := ⟨_, _, _, rfl⟩
  obtain ⟨n3, a3, e3, H3⟩ : ∃ n3 a3 e3, Hid (rdB b 524288 (a2, e2) = (n3, (a3, e3))) := ⟨_, _, _, rfl⟩
  simp only [H1.out, H2.out, H3.out]
  obtain ⟨E, hE⟩ : ∃ E, E = if doneE b a3 e3 = 0 then ckSnap (n1 : Int) (n2 : Int) (n3).length else doneE b a3 e3 := ⟨_, rfl⟩
  rw [← hE]
  have HE : Hid (E = if doneE b a3 e3 = 0 then ckSnap (n1 : Int) (n2 : Int) (n3).length else doneE b a3 e3) := hE
  clear hE
  obtain ⟨g, HG⟩ : ∃ g, Hid ((if E = 0 then (n1, n2, n3) else (0, 0, [])) = g) := ⟨_, rfl⟩
  rw [HG.out]
  go_enter Try.func32, Try.ntmps32
  go_wp2_with fail
  refine (rqI hq H1).mono ?_
  rintro r w2 ⟨rfl, h2⟩
  go_wp2_with fail
  refine (rqI h2 H2).mono ?_
  rintro r w3 ⟨rfl, h3⟩
  go_wp2_with fail
  refine (rqB h3 H3).mono ?_
  rintro r w4 ⟨vv, rfl, hS, h4⟩
  obtain ⟨av, cv, hvv, -⟩ := id hS
  subst hvv
  go_wp2_with fail
  have hBx : Below w4.heap.size w4 (w4.alloc (.cells #[.int .i64 (n1 : Int), .int .i64 (n2 : Int), .slice av n3.length cv] 57)) := (Below.refl _ _).alloc (Nat.le_refl _) _
  have HX : Hid ((w4.alloc (.cells #[.int .i64 (n1 : Int), .int .i64 (n2 : Int), .slice av n3.length cv] 57)).heap[w4.heap.size]? = some (.cells #[.int .i64 (n1 : Int), .int .i64 (n2 : Int), .slice av n3.length cv] 57 (0, 0))) := World.alloc_heap_new w4 _
  have hx := h4.mono hBx
  refine (rqDone_any hx).mono ?_
  rintro r w8 ⟨rfl, hB8⟩
  have hx8 := hx.mono hB8
  have ck1 := fun w' => refCkSnap_any (n1 : Int) (n2 : Int) av n3.length cv w'
  have HX8 : Hid (w8.heap[w4.heap.size]? = some (.cells #[.int .i64 (n1 : Int), .int .i64 (n2 : Int), .slice av n3.length cv] 57 (0, 0))) := (hB8.block _ (by simp)).trans HX.out
  have HR8 : Hid (w8.heap[w.heap.size]? = some (.cells #[.int .i64 0, .int .i64 0, .slice none 0 0] 57 (0, 0))) := (hx8.bel.block _ (by simp)).trans HR.out
  have HL : Hid (w4.heap.size < w8.heap.size) := by have := hB8.size; show w4.heap.size < w8.heap.size; simp at this; omega
  have HZ8 : Hid (w.heap.size < w8.heap.size) := by have := hx8.bel.size; show w.heap.size < w8.heap.size; simp at this; omega
  have HB8 : Hid (Below w.heap.size w w8) := HB0.out.trans (hx8.bel.mono (by simp))
  have hS8 := (hS.below hBx).below (hB8.mono (by simp))
  clear hx hx8 hBx
  by_cases he : doneE b a3 e3 = 0
  · have hE := HE.out
    rw [if_pos he] at hE
    rw [← hE] at ck1
    rw [he]
    obtain ⟨⟨q0, q1, q2⟩, -⟩ := cells3 HX8.out
    go_wp2_with fail
    refine (ck1 w8).mono ?_
    rintro r w9 ⟨rfl, hB9⟩
    have HX9 : Hid (w9.heap[w4.heap.size]? = some (.cells #[.int .i64 (n1 : Int), .int .i64 (n2 : Int), .slice av n3.length cv] 57 (0, 0))) := (hB9.block _ HL.out).trans HX8.out
    have HR9 : Hid (w9.heap[w.heap.size]? = some (.cells #[.int .i64 0, .int .i64 0, .slice none 0 0] 57 (0, 0))) := (hB9.block _ HZ8.out).trans HR8.out
    have HF : Hid (Below w.heap.size w w9) := HB8.out.trans (hB9.mono HB8.out.size)
    obtain ⟨⟨q0, q1, q2⟩, -⟩ := cells3 HX9.out
    obtain ⟨⟨r0, r1, r2⟩, f0, f1, f2⟩ := cells3 HR9.out
    clear ck1 hE
    by_cases hEn : E = 0
    · rw [if_pos hEn] at HG
      have hg := HG.out
      subst hg
      subst hEn
      go_wp2
      refine bodyPost_ret (results_57 rfl _ _ w.heap.size rfl (set3 HR9.out _ _ _)) rfl ?_
      have hS9 := hS8.below (hB9.mono (by have := HL.out; omega))
      refine ⟨.slice av n3.length cv, rfl, ?_, belset3 HF.out (by omega) _ _ _⟩
      exact (hS9.grow (by have := hB9.size; have := HL.out; omega) (grownset3 w9 w.heap.size _ _ _) (hS9.not_at HR9.out (by intro i b; match i with | 0 | 1 | 2 => simp [encB] | _ + 3 => simp)))
    · have hke : ((E : Int) != 0) = true := by simp; omega
      rw [if_neg hEn] at HG
      have hg := HG.out
      subst hg
      go_wp2
      refine bodyPost_ret (results_57 rfl _ _ w.heap.size rfl (set3 HR9.out _ _ _)) rfl ?_
      exact ⟨.slice none 0 0, rfl, Sl.nil _ _, belset3 HF.out (by omega) _ _ _⟩
  · have hE := HE.out
    rw [if_neg he] at hE
    rw [← hE]
    have hEn : ¬ E = 0 := by omega
    have hke : ((E : Int) == 0) = false := by simp; omega
    have hke2 : ((E : Int) != 0) = true := by simp; omega
    rw [if_neg hEn] at HG
    have hg := HG.out
    subst hg
    obtain ⟨⟨r0, r1, r2⟩, f0, f1, f2⟩ := cells3 HR8.out
    clear ck1 hE
    go_wp2
    refine bodyPost_ret (results_57 rfl _ _ w.heap.size rfl (set3 HR8.out _ _ _)) rfl ?_
    exact ⟨.slice none 0 0, rfl, Sl.nil _ _, belset3 HB8.out (by omega) _ _ _⟩

theorem wholeSEntry {w0 : World} {t i k : Int} {m : List UInt8} {a : Option Addr} {cap : Nat} {R : Nat} {l : List UInt8} {p e : Nat} {w : World} (h : Rr w0 w R l p e) {E : Nat} (hE : Hid (E = if doneE l p e = 0 then ckEntry t i k m.length else doneE l p e)) :
    Calls Try.prog 65 #[.pointer (some ⟨R, 0, none⟩), .iface 27 (.agg #[]), .agg #[.int .i64 t, .int .i64 i, .int .i64 k, .slice a m.length cap]] w fun r w' =>
      ∃ (z0 : Int) (z1 : Int) (z2 : Int) (z3a : Option Addr) (z3n : Nat) (z3c : Nat), r = .returned (.tuple #[.agg #[.int .i64 z0, .int .i64 z1, .int .i64 z2, .slice z3a z3n z3c], .int .i64 (E : Int)]) ∧ Hid ((.agg #[.int .i64 z0, .int .i64 z1, .int .i64 z2, .slice z3a z3n z3c] : Value) = if E = 0 then .agg #[.int .i64 t, .int .i64 i, .int .i64 k, .slice a m.length cap] else .agg #[.int .i64 0, .int .i64 0, .int .i64 0, .slice none 0 0]) ∧ Rr w0 w' R l p e ∧ Below w.heap.size w w' := by
  refine (wholeEntry_any t i k m a cap R l p e w h E hE.out).mono ?_
  rintro r w' ⟨rfl, hB⟩
  by_cases h0 : E = 0
  · rw [if_pos h0]; exact ⟨_, _, _, _, _, _, rfl, rfl, h.mono hB, hB⟩
  · rw [if_neg h0]; exact ⟨0, 0, 0, none, 0, 0, rfl, rfl, h.mono hB, hB⟩
set_option maxRecDepth 100000 in
set_option maxHeartbeats 2000000 in
theorem getEntry_any (b : List UInt8) (v : Value) (M : Nat) (w : World) (hv : Sl M w v b) (hM : M ≤ w.heap.size) (hb : b.length ≤ 1099511627776) : Calls Try.prog 17 #[.agg #[], v] w fun r w' =>
    ∃ u, r = .returned (.tuple #[.agg #[.int .i64 ((goEntry b).1 : Int), .int .i64 ((goEntry b).2.1 : Int), .int .i64 ((goEntry b).2.2.1 : Int), u], .int .i64 (geEntry b : Int)]) ∧ Ow w.heap.size w' u (goEntry b).2.2.2 ∧ Below w.heap.size w w' := by
  obtain ⟨a, cap, rfl, -⟩ := id hv
  obtain ⟨W0, hW0⟩ : ∃ W0, (w.alloc (.cells #[] 27)).alloc (.cells #[.int .i64 0, .int .i64 0, .int .i64 0, .slice none 0 0] 24) = W0 := ⟨_, rfl⟩
  have HW0 : Hid ((w.alloc (.cells #[] 27)).alloc (.cells #[.int .i64 0, .int .i64 0, .int .i64 0, .slice none 0 0] 24) = W0) := hW0
  have HB0 : Hid (Below w.heap.size w W0) := by show Below w.heap.size w W0; rw [← hW0]; exact (((Below.refl _ w).alloc (by simp) _).alloc (by simp) _)
  have HS : Hid (W0.heap.size = w.heap.size + 2) := by show W0.heap.size = _; rw [← hW0]; simp
  have HR : Hid (W0.heap[w.heap.size + 1]? = some (.cells #[.int .i64 0, .int .i64 0, .int .i64 0, .slice none 0 0] 24 (0, 0))) := by
    show W0.heap[w.heap.size + 1]? = _
    rw [← hW0]; simpa using World.alloc_heap_new (w.alloc (.cells #[] 27)) _
  have hv0 := hv.below (HB0.out.mono hM)
  clear hW0
  unfold goEntry geEntry rdEntry
  obtain ⟨n1, a1, e1, H1⟩ : ∃ n1 a1 e1, Hid (rdN b (0, 0) = (n1, (a1, e1))) := ⟨_, _, _, rfl⟩
  obtain ⟨n2, a2, e2, H2⟩ : ∃ n2 a2 e2, Hid (rdN b (a1, e1) = (n2, (a2, e2))) := ⟨_, _, _, rfl⟩
  obtain ⟨n3, a3, e3, H3⟩ : ∃ n3 a3 e3, Hid (rdN b (a2, e2) = (n3, (a3, e3))) := ⟨_, _, _, rfl⟩
  obtain ⟨n4, a4, e4, H4⟩ : ∃ n4 a4 e4, Hid (rdB b 4096 (a3, e3) = (n4, (a4, e4))) := ⟨_, _, _, rfl⟩
  simp only [H1.out, H2.out, H3.out, H4.out]
  obtain ⟨E, hE⟩ : ∃ E, E = if doneE b a4 e4 = 0 then ckEntry (n1 : Int) (n2 : Int) (n3 : Int) (n4).length else doneE b a4 e4 := ⟨_, rfl⟩
  rw [← hE]
  have HE : Hid (E = if doneE b a4 e4 = 0 then ckEntry (n1 : Int) (n2 : Int) (n3 : Int) (n4).length else doneE b a4 e4) := hE
  clear hE
  obtain ⟨g, HG⟩ : ∃ g, Hid ((if E = 0 then (n1, n2, n3, n4) else (0, 0, 0, [])) = g) := ⟨_, rfl⟩
  rw [HG.out]
  go_enter Try.func17, Try.ntmps17
  go_wp2_with fail
  rw [HW0.out]
  refine (newR_any W0 hv0 hb).mono ?_
  rintro r w1 ⟨R, rfl, h1⟩
  go_wp2_with fail
  have h1' : Rr W0 w1.drew R b 0 0 := h1.mono ⟨rfl, rfl, rfl, Nat.le_refl _, fun _ _ => rfl⟩
  go_region_held3 (fun _ => True) (trivial)
    (first | (go_at_call 66; refine (rrI (by assumption) (by assumption)).mono ?_; rintro r w2 ⟨rfl, h2⟩)
           | (go_at_call 67; refine (rrB (by assumption) (by assumption)).mono ?_; rintro r w4 ⟨vv, rfl, hO4, h4, hz4⟩; obtain ⟨av, cv, hvv, -, -⟩ := hO4.shape; subst hvv)
           | (go_at_call 65; refine (wholeSEntry (by assumption) HE).mono ?_; rintro r w5 ⟨z0, z1, z2, z3a, z3n, z3c, rfl, HZ, h5, hB5⟩; have HR5 : Hid (w5.heap[w.heap.size + 1]? = some (.cells #[.int .i64 0, .int .i64 0, .int .i64 0, .slice none 0 0] 24 (0, 0))) := (h5.bel.block _ (by have := HS.out; omega)).trans HR.out; obtain ⟨⟨r0, r1, r2, r3⟩, f0, f1, f2, f3⟩ := cells4 HR5.out))
  go_wp2
  refine bodyPost_ret (results_24 rfl _ _ (w.heap.size + 1) rfl (set4 HR5.out _ _ _ _)) rfl ?_
  have hg := HG.out
  have hz := HZ.out
  by_cases h0 : E = 0
  · rw [if_pos h0] at hg hz
    subst hg
    have hO5 := (hO4.below hB5 (Nat.le_refl _)).base (N' := w.heap.size) (by have := HB0.out.size; have := h2.bel.size; omega)
    have hO6 := hO5.kept (grownset4 w5 (w.heap.size + 1) (.int .i64 z0) (.int .i64 z1) (.int .i64 z2) (.slice z3a z3n z3c)) (.inr (hO5.not_at HR5.out (by decide)))
    refine ⟨_, ?_, hO6, belset4 (HB0.out.trans (h5.bel.mono HB0.out.size)) (by omega) _ _ _ _⟩
    show Ending.returned (.tuple #[.agg #[.int .i64 z0, .int .i64 z1, .int .i64 z2, .slice z3a z3n z3c], .int .i64 (E : Int)]) = _
    rw [hz]
  · rw [if_neg h0] at hg hz
    subst hg
    refine ⟨.slice none 0 0, ?_, Ow.nil _ _, belset4 (HB0.out.trans (h5.bel.mono HB0.out.size)) (by omega) _ _ _ _⟩
    show Ending.returned (.tuple #[.agg #[.int .i64 z0, .int .i64 z1, .int .i64 z2, .slice z3a z3n z3c], .int .i64 (E : Int)]) = _
    rw [hz]
    rfl

set_option maxRecDepth 100000 in
set_option maxHeartbeats 2000000 in
theorem refGetEntry_any (b : List UInt8) (v : Value) (M : Nat) (w : World) (hv : Sl M w v b) (hM : M ≤ w.heap.size) (hb : b.length ≤ 20000) : Calls Try.prog 18 #[v] w fun r w' =>
    ∃ u, r = .returned (.tuple #[.agg #[.int .i64 ((goEntry b).1 : Int), .int .i64 ((goEntry b).2.1 : Int), .int .i64 ((goEntry b).2.2.1 : Int), u], .int .i64 (geEntry b : Int)]) ∧ Sl w'.heap.size w' u (goEntry b).2.2.2 ∧ Below w.heap.size w w' := by
  obtain ⟨a, cap, rfl, -⟩ := id hv
  have hB0 : Below w.heap.size w (w.alloc (.cells #[.int .i64 0, .int .i64 0, .int .i64 0, .slice none 0 0] 24)) := (Below.refl _ w).alloc (Nat.le_refl _) _
  have hq := newQ (hv.below (hB0.mono hM)) (by simp; omega) hb
  simp only [World.size_alloc] at hq
  have HR : Hid ((w.alloc (.cells #[.int .i64 0, .int .i64 0, .int .i64 0, .slice none 0 0] 24)).heap[w.heap.size]? = some (.cells #[.int .i64 0, .int .i64 0, .int .i64 0, .slice none 0 0] 24 (0, 0))) := World.alloc_heap_new w _
  have HB0 : Hid (Below w.heap.size w (w.alloc (.cells #[.int .i64 0, .int .i64 0, .int .i64 0, .slice none 0 0] 24))) := hB0
  clear hB0
  unfold goEntry geEntry rdEntry
  obtain ⟨n1, a1, e1, H1⟩ : ∃ n1 a1 e1, Hid (rdN b (0, 0) = (n1, (a1, e1))) := ⟨_, _, _, rfl⟩
  obtain ⟨n2, a2, e2, H2⟩ : ∃ n2 a2 e2, Hid (rdN b (a1, e1) = (n2, (a2, e2))) := ⟨_, _, _, rfl⟩
  obtain ⟨n3, a3, e3, H3⟩ : ∃ n3 a3 e3, Hid (rdN b (a2, e2) = (n3, (a3, e3))) := ⟨_, _, _, rfl⟩
  obtain ⟨n4, a4, e4, H4⟩ : ∃ n4 a4 e4, Hid (rdB b 4096 (a3, e3) = (n4, (a4, e4))) := ⟨_, _, _, rfl⟩
  simp only [H1.out, H2.out, H3.out, H4.out]
  obtain ⟨E, hE⟩ : ∃ E, E = if doneE b a4 e4 = 0 then ckEntry (n1 : Int) (n2 : Int) (n3 : Int) (n4).length else doneE b a4 e4 := ⟨_, rfl⟩
  rw [← hE]
  have HE : Hid (E = if doneE b a4 e4 = 0 then ckEntry (n1 : Int) (n2 : Int) (n3 : Int) (n4).length else doneE b a4 e4) := hE
  clear hE
  obtain ⟨g, HG⟩ : ∃ g, Hid ((if E = 0 then (n1, n2, n3, n4) else (0, 0, 0, [])) = g) := ⟨_, rfl⟩
  rw [HG.out]
  go_enter Try.func18, Try.ntmps18
  go_wp2_with fail
  refine (rqI hq H1).mono ?_
  rintro r w2 ⟨rfl, h2⟩
  go_wp2_with fail
  refine (rqI h2 H2).mono ?_
  rintro r w3 ⟨rfl, h3⟩
  go_wp2_with fail
  refine (rqI h3 H3).mono ?_
  rintro r w4 ⟨rfl, h4⟩
  go_wp2_with fail
  refine (rqB h4 H4).mono ?_
  rintro r w5 ⟨vv, rfl, hS, h5⟩
  obtain ⟨av, cv, hvv, -⟩ := id hS
  subst hvv
  go_wp2_with fail
  have hBx : Below w5.heap.size w5 (w5.alloc (.cells #[.int .i64 (n1 : Int), .int .i64 (n2 : Int), .int .i64 (n3 : Int), .slice av n4.length cv] 24)) := (Below.refl _ _).alloc (Nat.le_refl _) _
  have HX : Hid ((w5.alloc (.cells #[.int .i64 (n1 : Int), .int .i64 (n2 : Int), .int .i64 (n3 : Int), .slice av n4.length cv] 24)).heap[w5.heap.size]? = some (.cells #[.int .i64 (n1 : Int), .int .i64 (n2 : Int), .int .i64 (n3 : Int), .slice av n4.length cv] 24 (0, 0))) := World.alloc_heap_new w5 _
  have hx := h5.mono hBx
  refine (rqDone_any hx).mono ?_
  rintro r w8 ⟨rfl, hB8⟩
  have hx8 := hx.mono hB8
  have ck1 := fun w' => refCkEntry_any (n1 : Int) (n2 : Int) (n3 : Int) av n4.length cv w'
  have HX8 : Hid (w8.heap[w5.heap.size]? = some (.cells #[.int .i64 (n1 : Int), .int .i64 (n2 : Int), .int .i64 (n3 : Int), .slice av n4.length cv] 24 (0, 0))) := (hB8.block _ (by simp)).trans HX.out
  have HR8 : Hid (w8.heap[w.heap.size]? = some (.cells #[.int .i64 0, .int .i64 0, .int .i64 0, .slice none 0 0] 24 (0, 0))) := (hx8.bel.block _ (by simp)).trans HR.out
  have HL : Hid (w5.heap.size < w8.heap.size) := by have := hB8.size; show w5.heap.size < w8.heap.size; simp at this; omega
  have HZ8 : Hid (w.heap.size < w8.heap.size) := by have := hx8.bel.size; show w.heap.size < w8.heap.size; simp at this; omega
  have HB8 : Hid (Below w.heap.size w w8) := HB0.out.trans (hx8.bel.mono (by simp))
  have hS8 := (hS.below hBx).below (hB8.mono (by simp))
  clear hx hx8 hBx
  by_cases he : doneE b a4 e4 = 0
  · have hE := HE.out
    rw [if_pos he] at hE
    rw [← hE] at ck1
    rw [he]
    obtain ⟨⟨q0, q1, q2, q3⟩, -⟩ := cells4 HX8.out
    go_wp2_with fail
    refine (ck1 w8).mono ?_
    rintro r w9 ⟨rfl, hB9⟩
    have HX9 : Hid (w9.heap[w5.heap.size]? = some (.cells #[.int .i64 (n1 : Int), .int .i64 (n2 : Int), .int .i64 (n3 : Int), .slice av n4.length cv] 24 (0, 0))) := (hB9.block _ HL.out).trans HX8.out
    have HR9 : Hid (w9.heap[w.heap.size]? = some (.cells #[.int .i64 0, .int .i64 0, .int .i64 0, .slice none 0 0] 24 (0, 0))) := (hB9.block _ HZ8.out).trans HR8.out
    have HF : Hid (Below w.heap.size w w9) := HB8.out.trans (hB9.mono HB8.out.size)
    obtain ⟨⟨q0, q1, q2, q3⟩, -⟩ := cells4 HX9.out
    obtain ⟨⟨r0, r1, r2, r3⟩, f0, f1, f2, f3⟩ := cells4 HR9.out
    clear ck1 hE
    by_cases hEn : E = 0
    · rw [if_pos hEn] at HG
      have hg := HG.out
      subst hg
      subst hEn
      go_wp2
      refine bodyPost_ret (results_24 rfl _ _ w.heap.size rfl (set4 HR9.out _ _ _ _)) rfl ?_
      have hS9 := hS8.below (hB9.mono (by have := HL.out; omega))
      refine ⟨.slice av n4.length cv, rfl, ?_, belset4 HF.out (by omega) _ _ _ _⟩
      exact (hS9.grow (by have := hB9.size; have := HL.out; omega) (grownset4 w9 w.heap.size _ _ _ _) (hS9.not_at HR9.out (by intro i b; match i with | 0 | 1 | 2 | 3 => simp [encB] | _ + 4 => simp)))
    · have hke : ((E : Int) != 0) = true := by simp; omega
      rw [if_neg hEn] at HG
      have hg := HG.out
      subst hg
      go_wp2
      refine bodyPost_ret (results_24 rfl _ _ w.heap.size rfl (set4 HR9.out _ _ _ _)) rfl ?_
      exact ⟨.slice none 0 0, rfl, Sl.nil _ _, belset4 HF.out (by omega) _ _ _ _⟩
  · have hE := HE.out
    rw [if_neg he] at hE
    rw [← hE]
    have hEn : ¬ E = 0 := by omega
    have hke : ((E : Int) == 0) = false := by simp; omega
    have hke2 : ((E : Int) != 0) = true := by simp; omega
    rw [if_neg hEn] at HG
    have hg := HG.out
    subst hg
    obtain ⟨⟨r0, r1, r2, r3⟩, f0, f1, f2, f3⟩ := cells4 HR8.out
    clear ck1 hE
    go_wp2
    refine bodyPost_ret (results_24 rfl _ _ w.heap.size rfl (set4 HR8.out _ _ _ _)) rfl ?_
    exact ⟨.slice none 0 0, rfl, Sl.nil _ _, belset4 HB8.out (by omega) _ _ _ _⟩

end Go.Proofs.Ytfnnbfgfmbiabaa

/-
  Messages: what each of their parts may be: the code's small functions.
-/
namespace Go.Proofs.Ytfnnbfgfmbiabaa
open Go.RowKit Go.Shelf

theorem natz (n : Nat) : ((n : Int) == 0) = (n == 0) := by rw [Bool.eq_iff_iff]; simp

/-- Are a message's numbers in range? -/
def msgRange (fr to tm ix lt cm hi cx : Int) : Bool :=
  isIn fr 1 7 && isIn to 1 7 && isIn tm 1 4611686018427387904 && isIn ix 0 4611686018427387904 && isIn lt 0 4611686018427387904 && isIn cm 0 4611686018427387904 && isIn hi 0 4611686018427387904 && isIn cx 0 4611686018427387904

/-- Is nothing said beside what every message says? -/
def blank (ix lt cm hi cx : Int) (rj : Bool) (en : Nat) (si st : Int) (sn : Nat) : Bool :=
  (ix == 0) && (lt == 0) && (cm == 0) && (hi == 0) && (cx == 0) && !rj && (en == 0) && ((si == 0) && (st == 0) && (sn == 0))

set_option maxRecDepth 100000 in
set_option maxHeartbeats 8000000 in
theorem isKind_any (n : Int) (w : World) : Calls Try.prog 83 #[.int .i64 n] w fun e w' => e = .returned (.bool (isIn n 1 7)) ∧ w' = w := by
  go_enter Try.func83, Try.ntmps83
  go_wp2_with (go_at_call 61; refine (within_any _ _ _ _).mono ?_; rintro e w' ⟨rfl, hw⟩; subst w')
  go_ret
  exact ⟨rfl, rfl⟩

/-- The error of a wrong form. -/
def fI (b : Bool) : Nat := if b then 4 else 0

set_option maxRecDepth 100000 in
set_option maxHeartbeats 8000000 in
theorem formIf_any (b : Bool) (w : World) : Calls Try.prog 88 #[.bool b] w fun e w' => e = .returned (.int .i64 (fI b : Int)) ∧ w' = w := by
  cases b
  all_goals
    go_enter Try.func88, Try.ntmps88
    go_wp2
    go_ret
    exact ⟨rfl, rfl⟩

set_option maxRecDepth 100000 in
set_option maxHeartbeats 8000000 in
theorem isNone_any (si st : Int) (sa : Option Addr) (sn sc : Nat) (w : World) : Calls Try.prog 72 #[.agg #[.int .i64 si, .int .i64 st, .slice sa sn sc]] w fun e w' => e = .returned (.bool ((si == 0) && (st == 0) && (sn == 0))) ∧ Below w.heap.size w w' := by
  have HB : Hid (∀ o0, Below w.heap.size w (w.alloc o0)) := fun _ => ((Below.refl _ w).alloc (by simp) _)
  go_enter Try.func72, Try.ntmps72
  go_wp2
  all_goals
    go_ret
    refine ⟨?_, HB.out _⟩
    simp_all [natz]

set_option maxRecDepth 100000 in
set_option maxHeartbeats 8000000 in
theorem isPlace_any (kd fr to tm ix lt cm hi cx : Int) (rj : Bool) (ea : Option Addr) (en ec : Nat) (si st : Int) (sa : Option Addr) (sn sc : Nat) (w : World) : Calls Try.prog 89 #[.agg #[.int .i64 kd, .int .i64 fr, .int .i64 to, .int .i64 tm, .int .i64 ix, .int .i64 lt, .int .i64 cm, .int .i64 hi, .int .i64 cx, .bool rj, .slice ea en ec, .int .i64 si, .int .i64 st, .slice sa sn sc]] w fun e w' => e = .returned (.bool ((ix == 0) == (lt == 0))) ∧ Below w.heap.size w w' := by
  have HB : Hid (∀ o0, Below w.heap.size w (w.alloc o0)) := fun _ => ((Below.refl _ w).alloc (by simp) _)
  go_enter Try.func89, Try.ntmps89
  go_wp2
  all_goals
    go_ret
    refine ⟨?_, HB.out _⟩
    simp_all

set_option maxRecDepth 100000 in
set_option maxHeartbeats 8000000 in
theorem isBlank_any (kd fr to tm ix lt cm hi cx : Int) (rj : Bool) (ea : Option Addr) (en ec : Nat) (si st : Int) (sa : Option Addr) (sn sc : Nat) (w : World) : Calls Try.prog 85 #[.agg #[.int .i64 kd, .int .i64 fr, .int .i64 to, .int .i64 tm, .int .i64 ix, .int .i64 lt, .int .i64 cm, .int .i64 hi, .int .i64 cx, .bool rj, .slice ea en ec, .int .i64 si, .int .i64 st, .slice sa sn sc]] w fun e w' => e = .returned (.bool (blank ix lt cm hi cx rj en si st sn)) ∧ Below w.heap.size w w' := by
  have HB : Hid (∀ o0, Below w.heap.size w (w.alloc o0)) := fun _ => ((Below.refl _ w).alloc (by simp) _)
  have HB2 : Hid (∀ o0 w2, Below (w.alloc o0).heap.size (w.alloc o0) w2 → Below w.heap.size w w2) := fun o w2 h => (HB.out o).trans (h.mono (by simp))
  unfold blank
  go_enter Try.func85, Try.ntmps85
  go_wp2_with (go_at_call 72; refine (isNone_any _ _ _ _ _ _).mono ?_; rintro e w2 ⟨rfl, hB2⟩)
  all_goals
    go_ret
    refine ⟨?_, by first | exact HB.out _ | exact HB2.out _ _ hB2⟩
    simp_all [natz]
end Go.Proofs.Ytfnnbfgfmbiabaa

/-
  Messages: their numbers in range.
-/
namespace Go.Proofs.Ytfnnbfgfmbiabaa
open Go.RowKit Go.Shelf

theorem info3 : (Try.prog.info? 3).map (fun i => (i.zero, i.size, i.bytes)) = some (some (.int .i64 0), 1, 8) := by kernel_rfl
theorem run_index5 (w : World) (a b c d e : Value) (k : Nat) (hk : k < 5) (v : Value) (hv : #[a, b, c, d, e][k]? = some v) : (Instr.index 170 (.agg #[a, b, c, d, e]) (.int .i64 (k : Int))).run Try.prog w = .ok v w := by
  obtain ⟨i0, hi, hz0, hz1, hz2⟩ := info_parts info3
  have hv' : [a, b, c, d, e][k]? = some v := by simpa using hv
  simp [Instr.index, asIntOf, run_underlying Try.underlying170, sizeOf, typeInfo, hi, hz1, part, go_sem]
  rw [if_pos hk, hv']
  rfl

set_option maxRecDepth 100000 in
set_option maxHeartbeats 8000000 in
theorem inRange_any (kd fr to tm ix lt cm hi cx : Int) (rj : Bool) (ea : Option Addr) (en ec : Nat) (si st : Int) (sa : Option Addr) (sn sc : Nat) (w : World) : Calls Try.prog 84 #[.agg #[.int .i64 kd, .int .i64 fr, .int .i64 to, .int .i64 tm, .int .i64 ix, .int .i64 lt, .int .i64 cm, .int .i64 hi, .int .i64 cx, .bool rj, .slice ea en ec, .int .i64 si, .int .i64 st, .slice sa sn sc]] w fun e w' => e = .returned (.bool (msgRange fr to tm ix lt cm hi cx)) ∧ Below w.heap.size w w' := by
  have HB : Hid (∀ o0, Below w.heap.size w (w.alloc o0)) := fun _ => ((Below.refl _ w).alloc (by simp) _)
  by_cases h1 : isIn fr 1 7 = true
  · by_cases h2 : isIn to 1 7 = true
    · by_cases h3 : isIn tm 1 4611686018427387904 = true
      · have e0 : msgRange fr to tm ix lt cm hi cx = (isIn ix 0 4611686018427387904 && isIn lt 0 4611686018427387904 && isIn cm 0 4611686018427387904 && isIn hi 0 4611686018427387904 && isIn cx 0 4611686018427387904) := by simp [msgRange, h1, h2, h3]
        rw [e0]; clear e0
        have q0 : ∀ w', (Instr.index 170 (.agg #[.int .i64 ix, .int .i64 lt, .int .i64 cm, .int .i64 hi, .int .i64 cx]) (.int .i64 0)).run Try.prog w' = .ok (.int .i64 ix) w' := fun w' => run_index5 w' _ _ _ _ _ 0 (by omega) _ rfl
        have q1 : ∀ w', (Instr.index 170 (.agg #[.int .i64 ix, .int .i64 lt, .int .i64 cm, .int .i64 hi, .int .i64 cx]) (.int .i64 1)).run Try.prog w' = .ok (.int .i64 lt) w' := fun w' => run_index5 w' _ _ _ _ _ 1 (by omega) _ rfl
        have q2 : ∀ w', (Instr.index 170 (.agg #[.int .i64 ix, .int .i64 lt, .int .i64 cm, .int .i64 hi, .int .i64 cx]) (.int .i64 2)).run Try.prog w' = .ok (.int .i64 cm) w' := fun w' => run_index5 w' _ _ _ _ _ 2 (by omega) _ rfl
        have q3 : ∀ w', (Instr.index 170 (.agg #[.int .i64 ix, .int .i64 lt, .int .i64 cm, .int .i64 hi, .int .i64 cx]) (.int .i64 3)).run Try.prog w' = .ok (.int .i64 hi) w' := fun w' => run_index5 w' _ _ _ _ _ 3 (by omega) _ rfl
        have q4 : ∀ w', (Instr.index 170 (.agg #[.int .i64 ix, .int .i64 lt, .int .i64 cm, .int .i64 hi, .int .i64 cx]) (.int .i64 4)).run Try.prog w' = .ok (.int .i64 cx) w' := fun w' => run_index5 w' _ _ _ _ _ 4 (by omega) _ rfl
        go_enter Try.func84, Try.ntmps84
        go_wp2_with (go_at_call 61; refine (within_any _ _ _ _).mono ?_; rintro e w' ⟨rfl, hw⟩; subst w'; simp only [h1, h2, h3])
        clear h1 h2 h3
        refine wp_loop_rounds 6 ?_
        rw [rounds_succ]
        by_cases g0 : isIn ix 0 4611686018427387904 = true
        case neg =>
          simp only [Bool.not_eq_true] at g0
          go_wp2_with (go_at_call 61; refine (within_any _ _ _ _).mono ?_; rintro e w' ⟨rfl, hw⟩; subst w'; simp only [g0])
          go_returns
          exact ⟨by simp [g0], HB.out _⟩
        go_wp2_with (go_at_call 61; refine (within_any _ _ _ _).mono ?_; rintro e w' ⟨rfl, hw⟩; subst w'; simp only [g0])
        rw [rounds_succ]
        by_cases g1 : isIn lt 0 4611686018427387904 = true
        case neg =>
          simp only [Bool.not_eq_true] at g1
          go_wp2_with (go_at_call 61; refine (within_any _ _ _ _).mono ?_; rintro e w' ⟨rfl, hw⟩; subst w'; simp only [g1])
          go_returns
          exact ⟨by simp [g0, g1], HB.out _⟩
        go_wp2_with (go_at_call 61; refine (within_any _ _ _ _).mono ?_; rintro e w' ⟨rfl, hw⟩; subst w'; simp only [g1])
        rw [rounds_succ]
        by_cases g2 : isIn cm 0 4611686018427387904 = true
        case neg =>
          simp only [Bool.not_eq_true] at g2
          go_wp2_with (go_at_call 61; refine (within_any _ _ _ _).mono ?_; rintro e w' ⟨rfl, hw⟩; subst w'; simp only [g2])
          go_returns
          exact ⟨by simp [g0, g1, g2], HB.out _⟩
        go_wp2_with (go_at_call 61; refine (within_any _ _ _ _).mono ?_; rintro e w' ⟨rfl, hw⟩; subst w'; simp only [g2])
        rw [rounds_succ]
        by_cases g3 : isIn hi 0 4611686018427387904 = true
        case neg =>
          simp only [Bool.not_eq_true] at g3
          go_wp2_with (go_at_call 61; refine (within_any _ _ _ _).mono ?_; rintro e w' ⟨rfl, hw⟩; subst w'; simp only [g3])
          go_returns
          exact ⟨by simp [g0, g1, g2, g3], HB.out _⟩
        go_wp2_with (go_at_call 61; refine (within_any _ _ _ _).mono ?_; rintro e w' ⟨rfl, hw⟩; subst w'; simp only [g3])
        rw [rounds_succ]
        by_cases g4 : isIn cx 0 4611686018427387904 = true
        case neg =>
          simp only [Bool.not_eq_true] at g4
          go_wp2_with (go_at_call 61; refine (within_any _ _ _ _).mono ?_; rintro e w' ⟨rfl, hw⟩; subst w'; simp only [g4])
          go_returns
          exact ⟨by simp [g0, g1, g2, g3, g4], HB.out _⟩
        go_wp2_with (go_at_call 61; refine (within_any _ _ _ _).mono ?_; rintro e w' ⟨rfl, hw⟩; subst w'; simp only [g4])
        rw [rounds_succ]
        go_wp2
        go_returns
        exact ⟨by simp [g0, g1, g2, g3, g4], HB.out _⟩
      · have e0 : msgRange fr to tm ix lt cm hi cx = false := by simp [msgRange, h3]
        rw [e0]; clear e0
        simp only [Bool.not_eq_true] at h3
        go_enter Try.func84, Try.ntmps84
        go_wp2_with (go_at_call 61; refine (within_any _ _ _ _).mono ?_; rintro e w' ⟨rfl, hw⟩; subst w'; simp only [h1, h2, h3])
        go_returns
        exact ⟨rfl, HB.out _⟩
    · have e0 : msgRange fr to tm ix lt cm hi cx = false := by simp [msgRange, h2]
      rw [e0]; clear e0
      simp only [Bool.not_eq_true] at h2
      go_enter Try.func84, Try.ntmps84
      go_wp2_with (go_at_call 61; refine (within_any _ _ _ _).mono ?_; rintro e w' ⟨rfl, hw⟩; subst w'; simp only [h1, h2])
      go_returns
      exact ⟨rfl, HB.out _⟩
  · have e0 : msgRange fr to tm ix lt cm hi cx = false := by simp [msgRange, h1]
    rw [e0]; clear e0
    simp only [Bool.not_eq_true] at h1
    go_enter Try.func84, Try.ntmps84
    go_wp2_with (go_at_call 61; refine (within_any _ _ _ _).mono ?_; rintro e w' ⟨rfl, hw⟩; subst w'; simp only [h1])
    go_returns
    exact ⟨rfl, HB.out _⟩
end Go.Proofs.Ytfnnbfgfmbiabaa

