/-
  RefN; RefG; RefE; RefMn.
-/
import Derived.Test.YtfnnbfgfmbiabaaJ34
import Derived.Test.YtfnnbfgfmbiabaaJ39
import Derived.Test.YtfnnbfgfmbiabaaJ31
import Derived.Test.YtfnnbfgfmbiabaaJ32
import Derived.Test.YtfnnbfgfmbiabaaJ21
/-
  The document's reader beside other blocks: numbers, bools, bytes, an error that takes its place.
-/
namespace Go.Proofs.Ytfnnbfgfmbiabaa
open Go.RowKit Go.Shelf

theorem rqIg {w0 w : World} {Q : Nat} {v : Value} {l : List UInt8} {a e n a' e' : Nat} (h : Rq w0 w Q v l a e) (hr : Hid (rdN l (a, e) = (n, (a', e')))) :
    Calls Try.prog 68 #[.pointer (some ⟨Q, 0, none⟩)] w fun r w' => r = .returned (.int .i64 (n : Int)) ∧ Rq w0 w' Q v l a' e' ∧ w.grownBy w' (some Q) := by
  have hle := rdN_le l (a, e) h.le
  refine (qInt_any _ Q v l a e w h.rrd h.len h.le).mono ?_
  rintro r w' ⟨rfl, h', hg⟩
  have h2 := hr.out
  rw [h2] at hle
  simp only [rdN, Prod.mk.injEq] at h2
  obtain ⟨rfl, rfl, rfl⟩ := h2
  exact ⟨rfl, h.turn h' hg hle, hg⟩

theorem rqTg {w0 w : World} {Q : Nat} {v : Value} {l : List UInt8} {a e a' e' : Nat} {n : Bool} (h : Rq w0 w Q v l a e) (hr : Hid (rdT l (a, e) = (n, (a', e')))) :
    Calls Try.prog 98 #[.pointer (some ⟨Q, 0, none⟩)] w fun r w' => r = .returned (.bool n) ∧ Rq w0 w' Q v l a' e' ∧ w.grownBy w' (some Q) := by
  have hle := boolAt_le l a e h.le
  refine (qBool_any _ Q v l a e w h.rrd h.len h.le).mono ?_
  rintro r w' ⟨rfl, h', hg⟩
  have h2 := hr.out
  simp only [rdT, Prod.mk.injEq] at h2
  obtain ⟨rfl, rfl, rfl⟩ := h2
  exact ⟨rfl, h.turn h' hg hle, hg⟩

theorem rqBg {w0 w : World} {Q : Nat} {v : Value} {l t : List UInt8} {a e a' e' : Nat} {most : Int} (h : Rq w0 w Q v l a e) (hr : Hid (rdB l most (a, e) = (t, (a', e')))) :
    Calls Try.prog 69 #[.pointer (some ⟨Q, 0, none⟩), .int .i64 most] w fun r w' => ∃ u, r = .returned u ∧ Sl w'.heap.size w' u t ∧ Rq w0 w' Q v l a' e' ∧ w.grownBy w' (some Q) := by
  have hle := rdB_le l most (a, e) h.le
  refine (qBytes_any _ Q v l a e most w h.rrd h.len h.le).mono ?_
  rintro r w' ⟨u, rfl, hS, h', hg⟩
  have h2 := hr.out
  rw [h2] at hle
  simp only [rdB, Prod.mk.injEq] at h2
  obtain ⟨rfl, rfl, rfl⟩ := h2
  exact ⟨u, rfl, hS, h.turn h' hg hle, hg⟩

set_option maxRecDepth 100000 in
set_option maxHeartbeats 1000000 in
/-- An error takes its place, if there is none yet. -/
theorem refFail_any {w0 w : World} {Q : Nat} {v : Value} {l : List UInt8} {a e : Nat} (f : Nat) (h : Rq w0 w Q v l a e) :
    Calls Try.prog 97 #[.pointer (some ⟨Q, 0, none⟩), .int .i64 (f : Int)] w fun r w' => r = .returned (.tuple #[]) ∧ Rq w0 w' Q v l a (if e = 0 then f else e) ∧ w.grownBy w' (some Q) := by
  obtain ⟨k0, k1, k2, f1, f2⟩ := h.rrd.cells
  by_cases he : e = 0
  · subst he
    have HF : Hid (Rq w0 (w.setCell ⟨Q, 2, none⟩ (.int .i64 (f : Int))) Q v l a f ∧ w.grownBy (w.setCell ⟨Q, 2, none⟩ (.int .i64 (f : Int))) (some Q)) := ⟨h.turn (h.rrd.err f) (grown_set _ _ _ _) h.le, grown_set _ _ _ _⟩
    simp only [if_true]
    clear h
    go_enter Try.func97, Try.ntmps97
    go_wp2
    go_end0
    exact ⟨rfl, HF.out⟩
  · have he' : ((e : Int) == 0) = false := by simp; omega
    rw [if_neg he]
    go_enter Try.func97, Try.ntmps97
    go_wp2
    go_end0
    exact ⟨rfl, h, grown_refl _ _⟩
end Go.Proofs.Ytfnnbfgfmbiabaa

/-
  The document's Get of an entry and of a snapshot, their bytes in new memory.
-/
namespace Go.Proofs.Ytfnnbfgfmbiabaa
open Go.RowKit Go.Shelf

theorem rqBO {w0 w : World} {Q : Nat} {v : Value} {l t : List UInt8} {a e a' e' : Nat} {most : Int} (h : Rq w0 w Q v l a e) (hr : Hid (rdB l most (a, e) = (t, (a', e')))) :
    Calls Try.prog 69 #[.pointer (some ⟨Q, 0, none⟩), .int .i64 most] w fun r w' => ∃ u, r = .returned u ∧ Ow w.heap.size w' u t ∧ Rq w0 w' Q v l a' e' ∧ w.grownBy w' (some Q) := by
  have hle := rdB_le l most (a, e) h.le
  refine (qBytesO_any _ Q v l a e most w h.rrd h.len h.le).mono ?_
  rintro r w' ⟨u, rfl, hS, h', hg⟩
  have h2 := hr.out
  rw [h2] at hle
  simp only [rdB, Prod.mk.injEq] at h2
  obtain ⟨rfl, rfl, rfl⟩ := h2
  exact ⟨u, rfl, hS, h.turn h' hg hle, hg⟩

set_option maxRecDepth 100000 in
set_option maxHeartbeats 2000000 in
theorem refGetEntryO_any (b : List UInt8) (v : Value) (M : Nat) (w : World) (hv : Sl M w v b) (hM : M ≤ w.heap.size) (hb : b.length ≤ 20000) : Calls Try.prog 18 #[v] w fun r w' =>
    ∃ u, r = .returned (.tuple #[.agg #[.int .i64 ((goEntry b).1 : Int), .int .i64 ((goEntry b).2.1 : Int), .int .i64 ((goEntry b).2.2.1 : Int), u], .int .i64 (geEntry b : Int)]) ∧ Ow w.heap.size w' u (goEntry b).2.2.2 ∧ Below w.heap.size w w' := by
  obtain ⟨a, cap, rfl, -⟩ := id hv
  have hB0 : Below w.heap.size w (w.alloc (.cells #[.int .i64 0, .int .i64 0, .int .i64 0, .slice none 0 0] 24)) := (Below.refl _ w).alloc (Nat.le_refl _) _
  have hq := newQ (hv.below (hB0.mono hM)) (by simp; omega) hb
  simp only [World.size_alloc] at hq
  have HR : Hid ((w.alloc (.cells #[.int .i64 0, .int .i64 0, .int .i64 0, .slice none 0 0] 24)).heap[w.heap.size]? = some (.cells #[.int .i64 0, .int .i64 0, .int .i64 0, .slice none 0 0] 24 (0, 0))) := World.alloc_heap_new w _
  have HB0 : Hid (Below w.heap.size w (w.alloc (.cells #[.int .i64 0, .int .i64 0, .int .i64 0, .slice none 0 0] 24))) := hB0
  clear hB0
  unfold goEntry geEntry rdEntry
  obtain ⟨n1, a1, e1, H1⟩ : ∃ n1 a1 e1, Hid (rdN b (0, 0) = (n1, (a1, e1))) := ⟨_, _, _, rfl⟩
  obtain ⟨n2, a2, e2, H2⟩ : ∃ n2 a2 e2, Hid (rdN b (a1, e1) = (n2, (a2, e2))) := ⟨_, _, _, rfl⟩
  obtain ⟨n3, a3, e3, H3⟩ : ∃ n3 a3 e3, Hid (rdN b (a2, e2) = (n3, (a3, e3))) := ⟨_, _, _, rfl⟩
  obtain ⟨n4, a4, e4, H4⟩ : ∃ n4 a4 e4, Hid (rdB b 4096 (a3, e3) = (n4, (a4, e4))) := ⟨_, _, _, rfl⟩
  simp only [H1.out, H2.out, H3.out, H4.out]
  obtain ⟨E, hE⟩ : ∃ E, E = if doneE b a4 e4 = 0 then ckEntry (n1 : Int) (n2 : Int) (n3 : Int) (n4).length else doneE b a4 e4 := ⟨_, rfl⟩
  rw [← hE]
  have HE : Hid (E = if doneE b a4 e4 = 0 then ckEntry (n1 : Int) (n2 : Int) (n3 : Int) (n4).length else doneE b a4 e4) := hE
  clear hE
  obtain ⟨g, HG⟩ : ∃ g, Hid ((if E = 0 then (n1, n2, n3, n4) else (0, 0, 0, [])) = g) := ⟨_, rfl⟩
  rw [HG.out]
  go_enter Try.func18, Try.ntmps18
  go_wp2_with fail
  refine (rqI hq H1).mono ?_
  rintro r w2 ⟨rfl, h2⟩
  go_wp2_with fail
  refine (rqI h2 H2).mono ?_
  rintro r w3 ⟨rfl, h3⟩
  go_wp2_with fail
  refine (rqI h3 H3).mono ?_
  rintro r w4 ⟨rfl, h4⟩
  go_wp2_with fail
  refine (rqBO h4 H4).mono ?_
  rintro r w5 ⟨vv, rfl, hS, h5, hgg⟩
  obtain ⟨av, cv, hvv, -, -⟩ := hS.shape
  clear hgg
  subst hvv
  go_wp2_with fail
  have hBx : Below w5.heap.size w5 (w5.alloc (.cells #[.int .i64 (n1 : Int), .int .i64 (n2 : Int), .int .i64 (n3 : Int), .slice av n4.length cv] 24)) := (Below.refl _ _).alloc (Nat.le_refl _) _
  have HX : Hid ((w5.alloc (.cells #[.int .i64 (n1 : Int), .int .i64 (n2 : Int), .int .i64 (n3 : Int), .slice av n4.length cv] 24)).heap[w5.heap.size]? = some (.cells #[.int .i64 (n1 : Int), .int .i64 (n2 : Int), .int .i64 (n3 : Int), .slice av n4.length cv] 24 (0, 0))) := World.alloc_heap_new w5 _
  have hx := h5.mono hBx
  refine (rqDone_any hx).mono ?_
  rintro r w8 ⟨rfl, hB8⟩
  have hx8 := hx.mono hB8
  have ck1 := fun w' => refCkEntry_any (n1 : Int) (n2 : Int) (n3 : Int) av n4.length cv w'
  have HX8 : Hid (w8.heap[w5.heap.size]? = some (.cells #[.int .i64 (n1 : Int), .int .i64 (n2 : Int), .int .i64 (n3 : Int), .slice av n4.length cv] 24 (0, 0))) := (hB8.block _ (by simp)).trans HX.out
  have HR8 : Hid (w8.heap[w.heap.size]? = some (.cells #[.int .i64 0, .int .i64 0, .int .i64 0, .slice none 0 0] 24 (0, 0))) := (hx8.bel.block _ (by simp)).trans HR.out
  have HL : Hid (w5.heap.size < w8.heap.size) := by have := hB8.size; show w5.heap.size < w8.heap.size; simp at this; omega
  have HZ8 : Hid (w.heap.size < w8.heap.size) := by have := hx8.bel.size; show w.heap.size < w8.heap.size; simp at this; omega
  have HB8 : Hid (Below w.heap.size w w8) := HB0.out.trans (hx8.bel.mono (by simp))
  have hS8 := ((hS.below hBx (Nat.le_refl _)).below hB8 (Nat.le_refl _)).base (N' := w.heap.size) (by have := h4.bel.size; simp at this; omega)
  clear hx hx8 hBx
  by_cases he : doneE b a4 e4 = 0
  · have hE := HE.out
    rw [if_pos he] at hE
    rw [← hE] at ck1
    rw [he]
    obtain ⟨⟨q0, q1, q2, q3⟩, -⟩ := cells4 HX8.out
    go_wp2_with fail
    refine (ck1 w8).mono ?_
    rintro r w9 ⟨rfl, hB9⟩
    have HX9 : Hid (w9.heap[w5.heap.size]? = some (.cells #[.int .i64 (n1 : Int), .int .i64 (n2 : Int), .int .i64 (n3 : Int), .slice av n4.length cv] 24 (0, 0))) := (hB9.block _ HL.out).trans HX8.out
    have HR9 : Hid (w9.heap[w.heap.size]? = some (.cells #[.int .i64 0, .int .i64 0, .int .i64 0, .slice none 0 0] 24 (0, 0))) := (hB9.block _ HZ8.out).trans HR8.out
    have HF : Hid (Below w.heap.size w w9) := HB8.out.trans (hB9.mono HB8.out.size)
    obtain ⟨⟨q0, q1, q2, q3⟩, -⟩ := cells4 HX9.out
    obtain ⟨⟨r0, r1, r2, r3⟩, f0, f1, f2, f3⟩ := cells4 HR9.out
    clear ck1 hE
    by_cases hEn : E = 0
    · rw [if_pos hEn] at HG
      have hg := HG.out
      subst hg
      subst hEn
      go_wp2
      refine bodyPost_ret (results_24 rfl _ _ w.heap.size rfl (set4 HR9.out _ _ _ _)) rfl ?_
      have hS9 := hS8.below hB9 (Nat.le_refl _)
      exact ⟨.slice av n4.length cv, rfl, hS9.kept (grownset4 w9 w.heap.size _ _ _ _) (.inr (hS9.not_at HR9.out (by decide))), belset4 HF.out (by omega) _ _ _ _⟩
    · have hke : ((E : Int) != 0) = true := by simp; omega
      rw [if_neg hEn] at HG
      have hg := HG.out
      subst hg
      go_wp2
      refine bodyPost_ret (results_24 rfl _ _ w.heap.size rfl (set4 HR9.out _ _ _ _)) rfl ?_
      exact ⟨.slice none 0 0, rfl, Ow.nil _ _, belset4 HF.out (by omega) _ _ _ _⟩
  · have hE := HE.out
    rw [if_neg he] at hE
    rw [← hE]
    have hEn : ¬ E = 0 := by omega
    have hke : ((E : Int) == 0) = false := by simp; omega
    have hke2 : ((E : Int) != 0) = true := by simp; omega
    rw [if_neg hEn] at HG
    have hg := HG.out
    subst hg
    obtain ⟨⟨r0, r1, r2, r3⟩, f0, f1, f2, f3⟩ := cells4 HR8.out
    clear ck1 hE
    go_wp2
    refine bodyPost_ret (results_24 rfl _ _ w.heap.size rfl (set4 HR8.out _ _ _ _)) rfl ?_
    exact ⟨.slice none 0 0, rfl, Ow.nil _ _, belset4 HB8.out (by omega) _ _ _ _⟩

set_option maxRecDepth 100000 in
set_option maxHeartbeats 2000000 in
theorem refGetSnapO_any (b : List UInt8) (v : Value) (M : Nat) (w : World) (hv : Sl M w v b) (hM : M ≤ w.heap.size) (hb : b.length ≤ 20000) : Calls Try.prog 32 #[v] w fun r w' =>
    ∃ u, r = .returned (.tuple #[.agg #[.int .i64 ((goSnap b).1 : Int), .int .i64 ((goSnap b).2.1 : Int), u], .int .i64 (geSnap b : Int)]) ∧ Ow w.heap.size w' u (goSnap b).2.2 ∧ Below w.heap.size w w' := by
  obtain ⟨a, cap, rfl, -⟩ := id hv
  have hB0 : Below w.heap.size w (w.alloc (.cells #[.int .i64 0, .int .i64 0, .slice none 0 0] 57)) := (Below.refl _ w).alloc (Nat.le_refl _) _
  have hq := newQ (hv.below (hB0.mono hM)) (by simp; omega) hb
  simp only [World.size_alloc] at hq
  have HR : Hid ((w.alloc (.cells #[.int .i64 0, .int .i64 0, .slice none 0 0] 57)).heap[w.heap.size]? = some (.cells #[.int .i64 0, .int .i64 0, .slice none 0 0] 57 (0, 0))) := World.alloc_heap_new w _
  have HB0 : Hid (Below w.heap.size w (w.alloc (.cells #[.int .i64 0, .int .i64 0, .slice none 0 0] 57))) := hB0
  clear hB0
  unfold goSnap geSnap rdSnap
  obtain ⟨n1, a1, e1, H1⟩ : ∃ n1 a1 e1, Hid (rdN b (0, 0) = (n1, (a1, e1))) := ⟨_, _, _, rfl⟩
  obtain ⟨n2, a2, e2, H2⟩ : ∃ n2 a2 e2, Hid (rdN b (a1, e1) = (n2, (a2, e2))) := ⟨_, _, _, rfl⟩
  obtain ⟨n3, a3, e3, H3⟩ : ∃ n3 a3 e3, Hid (rdB b 524288 (a2, e2) = (n3, (a3, e3))) := ⟨_, _, _, rfl⟩
  simp only [H1.out, H2.out, H3.out]
  obtain ⟨E, hE⟩ : ∃ E, E = if doneE b a3 e3 = 0 then ckSnap (n1 : Int) (n2 : Int) (n3).length else doneE b a3 e3 := ⟨_, rfl⟩
  rw [← hE]
  have HE : Hid (E = if doneE b a3 e3 = 0 then ckSnap (n1 : Int) (n2 : Int) (n3).length else doneE b a3 e3) := hE
  clear hE
  obtain ⟨g, HG⟩ : ∃ g, Hid ((if E = 0 then (n1, n2, n3) else (0, 0, [])) = g) := ⟨_, rfl⟩
  rw [HG.out]
  go_enter Try.func32, Try.ntmps32
  go_wp2_with fail
  refine (rqI hq H1).mono ?_
  rintro r w2 ⟨rfl, h2⟩
  go_wp2_with fail
  refine (rqI h2 H2).mono ?_
  rintro r w3 ⟨rfl, h3⟩
  go_wp2_with fail
  refine (rqBO h3 H3).mono ?_
  rintro r w4 ⟨vv, rfl, hS, h4, hgg⟩
  obtain ⟨av, cv, hvv, -, -⟩ := hS.shape
  clear hgg
  subst hvv
  go_wp2_with fail
  have hBx : Below w4.heap.size w4 (w4.alloc (.cells #[.int .i64 (n1 : Int), .int .i64 (n2 : Int), .slice av n3.length cv] 57)) := (Below.refl _ _).alloc (Nat.le_refl _) _
  have HX : Hid ((w4.alloc (.cells #[.int .i64 (n1 : Int), .int .i64 (n2 : Int), .slice av n3.length cv] 57)).heap[w4.heap.size]? = some (.cells #[.int .i64 (n1 : Int), .int .i64 (n2 : Int), .slice av n3.length cv] 57 (0, 0))) := World.alloc_heap_new w4 _
  have hx := h4.mono hBx
  refine (rqDone_any hx).mono ?_
  rintro r w8 ⟨rfl, hB8⟩
  have hx8 := hx.mono hB8
  have ck1 := fun w' => refCkSnap_any (n1 : Int) (n2 : Int) av n3.length cv w'
  have HX8 : Hid (w8.heap[w4.heap.size]? = some (.cells #[.int .i64 (n1 : Int), .int .i64 (n2 : Int), .slice av n3.length cv] 57 (0, 0))) := (hB8.block _ (by simp)).trans HX.out
  have HR8 : Hid (w8.heap[w.heap.size]? = some (.cells #[.int .i64 0, .int .i64 0, .slice none 0 0] 57 (0, 0))) := (hx8.bel.block _ (by simp)).trans HR.out
  have HL : Hid (w4.heap.size < w8.heap.size) := by have := hB8.size; show w4.heap.size < w8.heap.size; simp at this; omega
  have HZ8 : Hid (w.heap.size < w8.heap.size) := by have := hx8.bel.size; show w.heap.size < w8.heap.size; simp at this; omega
  have HB8 : Hid (Below w.heap.size w w8) := HB0.out.trans (hx8.bel.mono (by simp))
  have hS8 := ((hS.below hBx (Nat.le_refl _)).below hB8 (Nat.le_refl _)).base (N' := w.heap.size) (by have := h3.bel.size; simp at this; omega)
  clear hx hx8 hBx
  by_cases he : doneE b a3 e3 = 0
  · have hE := HE.out
    rw [if_pos he] at hE
    rw [← hE] at ck1
    rw [he]
    obtain ⟨⟨q0, q1, q2⟩, -⟩ := cells3 HX8.out
    go_wp2_with fail
    refine (ck1 w8).mono ?_
    rintro r w9 ⟨rfl, hB9⟩
    have HX9 : Hid (w9.heap[w4.heap.size]? = some (.cells #[.int .i64 (n1 : Int), .int .i64 (n2 : Int), .slice av n3.length cv] 57 (0, 0))) := (hB9.block _ HL.out).trans HX8.out
    have HR9 : Hid (w9.heap[w.heap.size]? = some (.cells #[.int .i64 0, .int .i64 0, .slice none 0 0] 57 (0, 0))) := (hB9.block _ HZ8.out).trans HR8.out
    have HF : Hid (Below w.heap.size w w9) := HB8.out.trans (hB9.mono HB8.out.size)
    obtain ⟨⟨q0, q1, q2⟩, -⟩ := cells3 HX9.out
    obtain ⟨⟨r0, r1, r2⟩, f0, f1, f2⟩ := cells3 HR9.out
    clear ck1 hE
    by_cases hEn : E = 0
    · rw [if_pos hEn] at HG
      have hg := HG.out
      subst hg
      subst hEn
      go_wp2
      refine bodyPost_ret (results_57 rfl _ _ w.heap.size rfl (set3 HR9.out _ _ _)) rfl ?_
      have hS9 := hS8.below hB9 (Nat.le_refl _)
      exact ⟨.slice av n3.length cv, rfl, hS9.kept (grownset3 w9 w.heap.size _ _ _) (.inr (hS9.not_at HR9.out (by decide))), belset3 HF.out (by omega) _ _ _⟩
    · have hke : ((E : Int) != 0) = true := by simp; omega
      rw [if_neg hEn] at HG
      have hg := HG.out
      subst hg
      go_wp2
      refine bodyPost_ret (results_57 rfl _ _ w.heap.size rfl (set3 HR9.out _ _ _)) rfl ?_
      exact ⟨.slice none 0 0, rfl, Ow.nil _ _, belset3 HF.out (by omega) _ _ _⟩
  · have hE := HE.out
    rw [if_neg he] at hE
    rw [← hE]
    have hEn : ¬ E = 0 := by omega
    have hke : ((E : Int) == 0) = false := by simp; omega
    have hke2 : ((E : Int) != 0) = true := by simp; omega
    rw [if_neg hEn] at HG
    have hg := HG.out
    subst hg
    obtain ⟨⟨r0, r1, r2⟩, f0, f1, f2⟩ := cells3 HR8.out
    clear ck1 hE
    go_wp2
    refine bodyPost_ret (results_57 rfl _ _ w.heap.size rfl (set3 HR8.out _ _ _)) rfl ?_
    exact ⟨.slice none 0 0, rfl, Ow.nil _ _, belset3 HB8.out (by omega) _ _ _⟩

end Go.Proofs.Ytfnnbfgfmbiabaa

/-
  Entries read by the document.
-/
namespace Go.Proofs.Ytfnnbfgfmbiabaa
open Go.RowKit Go.Shelf

/-- What 'entries' leaves: its entries, the reader's state. -/
def GotEs (w0 w : World) (Q : Nat) (v : Value) (l : List UInt8) (EE : Nat) (X : Nat × List (Nat × Nat × Nat × List UInt8) × (Nat × Nat)) (r : Ending) (w' : World) : Prop :=
  ∃ va vc es pz ez, r = .returned (.slice va es.length vc) ∧ EntsOw w.heap.size w' (.slice va es.length vc) es ∧ Rq w0 w' Q v l pz ez ∧ (EE ≠ 0 → ez = EE) ∧ (EE = 0 → (pz, ez) = X.2.2 ∧ es.map Ent.says = saysN X.2.1) ∧ w.grownBy w' (some Q)

theorem EntsOw.shape {N : Nat} {w : World} {v : Value} {es : List Ent} (h : EntsOw N w v es) : ∃ va vc, v = .slice va es.length vc := by
  rcases h.row.2 with ⟨hv, h0⟩ | ⟨g, cap, cur, hv, r⟩
  · rw [h0]; exact ⟨_, _, hv⟩
  · exact ⟨_, _, hv⟩

theorem Rq.grown {w0 w w' : World} {Q : Nat} {v : Value} {l : List UInt8} {p e : Nat} {row : Option Nat} (h : Rq w0 w Q v l p e) (hg : w.grownBy w' row) (hrow : ∀ k, row = some k → Q < k) : Rq w0 w' Q v l p e := by
  have hle := h.rrd.le
  exact ⟨h.rrd.kept hg (fun e => by have := hrow Q e; omega) (fun k e => by have := hrow k e; omega), h.bel.grown hg h.bel.size (fun k e => by have := hrow k e; omega), h.len, h.le⟩

set_option maxRecDepth 100000 in
set_option maxHeartbeats 8000000 in
theorem refEntries_any {w0 w : World} {Q : Nat} {v : Value} {l : List UInt8} {p e n p1 e1 : Nat} (h : Rq w0 w Q v l p e) (hr : Hid (rdN l (p, e) = (n, (p1, e1)))) (EE : Nat) (hEE : EE = if e1 ≠ 0 then e1 else if (64 : Int) < (n : Int) then 3 else (rdEs l 8192 n (p1, e1)).1) :
    Calls Try.prog 99 #[.pointer (some ⟨Q, 0, none⟩)] w fun r w' => GotEs w0 w Q v l EE (rdEs l 8192 n (p1, e1)) r w' := by
  have HQL : Hid (Q < w.heap.size) := h.rrd.lt
  have HN0 : Hid (e1 ≠ 0 → n = 0) := fun h1 => ((fail_num l p e n p1 e1 hr.out).2 h1).1
  obtain ⟨X, hX⟩ : ∃ X, rdEs l 8192 n (p1, e1) = X := ⟨_, rfl⟩
  have HX : Hid (rdEs l 8192 n (p1, e1) = X) := hX
  rw [hX] at hEE ⊢
  clear hX
  have HEE : Hid (EE = if e1 ≠ 0 then e1 else if (64 : Int) < (n : Int) then 3 else X.1) := hEE
  clear hEE
  by_cases hm : (64 : Int) < (n : Int)
  case pos =>
    have he1 : e1 = 0 := by
      by_cases h1 : e1 = 0
      · exact h1
      · have := HN0.out h1; omega
    subst he1
    obtain rfl : EE = 3 := by rw [HEE.out, if_neg (by simp), if_pos hm]
    go_enter Try.func99, Try.ntmps99
    go_wp2_with (first
      | (go_at_call 68; refine (rqIg h hr).mono ?_; rintro r w1 ⟨rfl, h1, hg1⟩)
      | (go_at_call 97; refine (refFail_any 3 h1).mono ?_; rintro r w2 ⟨rfl, h2, hg2⟩; rw [if_pos rfl] at h2; obtain ⟨k0, k1, k2, f1, f2⟩ := h2.rrd.cells))
    refine wp_loop_rounds 1 ?_
    rw [rounds_succ]
    go_wp2
    go_returns
    exact ⟨none, 0, [], p1, 3, rfl, EntsOw.nil _ _, h2, fun _ => rfl, fun h => by omega, grown_trans hg1 hg2 (fun k e => .inl e)⟩
  have HEE2 : Hid (EE = if e1 ≠ 0 then e1 else X.1) := by have := HEE.out; rw [if_neg hm] at this; exact this
  clear HEE
  go_enter Try.func99, Try.ntmps99
  go_wp2_with (go_at_call 68; refine (rqIg h hr).mono ?_; rintro r w1 ⟨rfl, h1, hg1⟩)
  obtain ⟨i0, hi, hz0, hz1, hz2⟩ := info_parts info24
  have HD : Hid (∀ m s, rdEs l 8192 (m + 1) s = (if (rdB l 8192 s).2.2 ≠ 0 then ((rdB l 8192 s).2.2, [], (rdB l 8192 s).2)
    else if geEntry (rdB l 8192 s).1 ≠ 0 then (geEntry (rdB l 8192 s).1, [], (rdB l 8192 s).2)
    else ((rdEs l 8192 m (rdB l 8192 s).2).1, goEntry (rdB l 8192 s).1 :: (rdEs l 8192 m (rdB l 8192 s).2).2.1, (rdEs l 8192 m (rdB l 8192 s).2).2.2))) := fun m s => rfl
  go_loopw [4, 5] (fun lv iv wr => ∃ (j p2 e2 vc : Nat) (va : Option Addr) (es : List Ent), iv = .int .i64 (j : Int) ∧ lv = .slice va es.length vc ∧ j ≤ n ∧ es.length ≤ j ∧ EntsOw w.heap.size wr (.slice va es.length vc) es ∧ Rq w0 wr Q v l p2 e2 ∧ w.grownBy wr (some Q) ∧
      ((e2 ≠ 0 ∧ EE = e2) ∨ (e2 = 0 ∧ e1 = 0 ∧ es.length = j ∧ (rdEs l 8192 (n - j) (p2, 0)).1 = X.1 ∧ (rdEs l 8192 (n - j) (p2, 0)).2.2 = X.2.2 ∧ es.map Ent.says ++ saysN (rdEs l 8192 (n - j) (p2, 0)).2.1 = saysN X.2.1))) (fun _ iv _ => n - (intOf iv).toNat)
  case atStart =>
    refine ⟨0, p1, e1, 0, none, [], rfl, rfl, Nat.zero_le _, Nat.le_refl _, EntsOw.nil _ _, h1, hg1, ?_⟩
    by_cases h0 : e1 = 0
    · subst h0
      exact .inr ⟨rfl, rfl, rfl, by simp [HX.out], by simp [HX.out], by simp [HX.out]⟩
    · exact .inl ⟨h0, by rw [HEE2.out, if_pos h0]⟩
  case round =>
    obtain ⟨j, p2, e2, vc, va, es, rfl, rfl, hj, hej, hE, h2, hg2, hx⟩ := hrel
    have HXX : Hid ((e2 ≠ 0 ∧ EE = e2) ∨ (e2 = 0 ∧ e1 = 0 ∧ es.length = j ∧ (rdEs l 8192 (n - j) (p2, 0)).1 = X.1 ∧ (rdEs l 8192 (n - j) (p2, 0)).2.2 = X.2.2 ∧ es.map Ent.says ++ saysN (rdEs l 8192 (n - j) (p2, 0)).2.1 = saysN X.2.1)) := hx
    clear hx
    obtain ⟨k0, k1, k2, f1, f2⟩ := h2.rrd.cells
    have hnn : n ≤ 64 := by omega
    by_cases hlt : j < n
    case neg =>
      have hlt' : (n : Int) ≤ (j : Int) := by omega
      have hnj : n - j = 0 := by omega
      have HF : Hid ((EE ≠ 0 → e2 = EE) ∧ (EE = 0 → (p2, e2) = X.2.2 ∧ es.map Ent.says = saysN X.2.1)) := by
        rcases HXX.out with ⟨a1, a2⟩ | ⟨a0, a00, a1, a2, a3, a4⟩
        · exact ⟨fun _ => a2.symm, fun h => absurd (a2.symm.trans h) a1⟩
        · rw [hnj] at a2 a3 a4
          simp only [rdEs] at a2 a3 a4
          subst a0
          refine ⟨fun h => absurd ?_ h, fun _ => ⟨a3, by simpa [saysN] using a4⟩⟩
          rw [HEE2.out, if_neg (by simpa using a00)]; exact a2.symm
      clear hnj
      go_wp2
      go_returns
      exact ⟨va, vc, es, p2, e2, rfl, hE, h2, HF.out.1, HF.out.2, hg2⟩
    by_cases he2 : e2 = 0
    case neg =>
      have hke : ((e2 : Int) == 0) = false := by simp; omega
      have HF : Hid (EE = e2) := by
        rcases HXX.out with ⟨a1, a2⟩ | ⟨a0, _⟩
        · exact a2
        · exact absurd a0 he2
      go_wp2
      go_returns
      exact ⟨va, vc, es, p2, e2, rfl, hE, h2, fun _ => HF.out.symm, fun h => absurd (HF.out.symm.trans h) he2, hg2⟩
    subst he2
    have hxx : e1 = 0 ∧ es.length = j ∧ (rdEs l 8192 (n - j) (p2, 0)).1 = X.1 ∧ (rdEs l 8192 (n - j) (p2, 0)).2.2 = X.2.2 ∧ es.map Ent.says ++ saysN (rdEs l 8192 (n - j) (p2, 0)).2.1 = saysN X.2.1 := by
      rcases HXX.out with ⟨a1, _⟩ | ⟨_, a⟩
      · exact absurd rfl a1
      · exact a
    obtain ⟨he1, hel, hxx⟩ := hxx
    have HEL : Hid (es.length = j) := hel
    have HEX : Hid (EE = X.1) := by rw [show (Hid (EE = X.1)) = (EE = X.1) from rfl, HEE2.out, if_neg (by simpa using he1)]
    clear hel HXX
    obtain ⟨m, hm1⟩ : ∃ m, n - j = m + 1 := ⟨n - j - 1, by omega⟩
    have HM : Hid (n - (j + 1) = m) := by show n - (j + 1) = m; omega
    rw [hm1] at hxx
    obtain ⟨t, p3, e3, H3⟩ : ∃ t p3 e3, Hid (rdB l 8192 (p2, 0) = (t, (p3, e3))) := ⟨_, _, _, rfl⟩
    simp only [HD.out, H3.out] at hxx
    clear hm1
    have htl : t.length ≤ 20000 := by
      have := h2.len
      have h3 := H3.out
      simp only [rdB, Prod.mk.injEq] at h3
      obtain ⟨rfl, -, -⟩ := h3
      unfold takeAt
      split
      · simp
      · split
        · simp
        · split
          · simp
          · simp; omega
    have ho := rqBO h2 H3
    by_cases h3 : e3 = 0
    case neg =>
      have HX1 : Hid (EE = e3) := by
        have := hxx.1
        rw [if_pos h3] at this
        rw [show (Hid (EE = e3)) = (EE = e3) from rfl, HEX.out]; exact this.symm
      have hke : ((e3 : Int) == 0) = false := by simp; omega
      clear hxx
      go_wp2_with (go_at_call 69; refine ho.mono ?_; rintro r w4 ⟨u4, rfl, hO4, h4, hg4⟩; obtain ⟨ua, uc, rfl, -, -⟩ := hO4.shape; obtain ⟨k0, k1, k2, f1, f2⟩ := h4.rrd.cells)
      exact ⟨⟨j + 1, p3, e3, vc, va, es, by go_num, rfl, by omega, by omega, hE.kept hg4 HQL.out, h4, grown_trans hg2 hg4 (fun k e => .inl e), .inl ⟨h3, HX1.out⟩⟩, by simp [intOf]; omega⟩
    subst h3
    simp only [ne_eq, not_true, if_false] at hxx
    obtain ⟨E4, hE4⟩ : ∃ E4, geEntry t = E4 := ⟨_, rfl⟩
    obtain ⟨G, hG⟩ : ∃ G, goEntry t = G := ⟨_, rfl⟩
    have HGET : Hid (∀ va' vc' M w', Sl M w' (.slice va' t.length vc') t → M ≤ w'.heap.size → Calls Try.prog 18 #[.slice va' t.length vc'] w' fun r w'' => ∃ u, r = .returned (.tuple #[.agg #[.int .i64 (G.1 : Int), .int .i64 (G.2.1 : Int), .int .i64 (G.2.2.1 : Int), u], .int .i64 (E4 : Int)]) ∧ Ow w'.heap.size w'' u G.2.2.2 ∧ Below w'.heap.size w' w'') := fun va' vc' M w' hv hM => by
      have := refGetEntryO_any t (.slice va' t.length vc') M w' hv hM htl
      rw [hE4, hG] at this
      exact this
    rw [hE4, hG] at hxx
    clear hE4 hG
    obtain ⟨G0, G1, G2, G3⟩ := G
    simp only at HGET hxx
    have HXN : Hid ((E4 ≠ 0 → EE = E4) ∧ (E4 = 0 → (rdEs l 8192 m (p3, 0)).1 = X.1 ∧ (rdEs l 8192 m (p3, 0)).2.2 = X.2.2 ∧ ∀ ua uc, (es ++ [(⟨(G0 : Int), (G1 : Int), (G2 : Int), ua, uc, G3⟩ : Ent)]).map Ent.says ++ saysN (rdEs l 8192 m (p3, 0)).2.1 = saysN X.2.1)) := by
      refine ⟨fun h4 => ?_, fun h4 => ?_⟩
      · have := hxx.1
        rw [if_pos h4] at this
        rw [HEX.out]; exact this.symm
      · rw [if_neg (by simpa using h4)] at hxx
        refine ⟨hxx.1, hxx.2.1, fun ua uc => ?_⟩
        have := hxx.2.2
        simp only [saysN, List.map_cons, List.map_append, List.map_nil, Ent.says, List.append_assoc, List.cons_append, List.nil_append] at this ⊢
        exact this
    clear hxx
    go_wp2_with (first
      | (go_at_call 69; refine ho.mono ?_; rintro r w4 ⟨u4, rfl, hO4, h4, hg4⟩; obtain ⟨ta, tc, rfl, -, -⟩ := hO4.shape; obtain ⟨k0, k1, k2, f1, f2⟩ := h4.rrd.cells)
      | (go_at_call 18; refine (HGET.out ta tc w4.heap.size w4 (hO4.sl (Nat.le_refl _)) (Nat.le_refl _)).mono ?_; rintro r w5 ⟨u5, rfl, hO5, hB5⟩; obtain ⟨ua, uc, rfl, -, -⟩ := hO5.shape)
      | (go_at_call 97; refine (refFail_any E4 ((h4.mono hB5).mono ((Below.refl _ _).alloc (Nat.le_refl _) (.cells #[.int .i64 (G0 : Int), .int .i64 (G1 : Int), .int .i64 (G2 : Int), .slice ua G3.length uc] 24)))).mono ?_; rintro r w6 ⟨rfl, h6, hg6⟩; rw [if_pos rfl] at h6; have hQ5 : Q < w5.heap.size := (h4.mono hB5).rrd.lt; have hz6 := hg6.size; have hx6 := (hg6.block w5.heap.size (by simp) (by simp; omega)).trans (World.alloc_heap_new w5 (.cells #[.int .i64 (G0 : Int), .int .i64 (G1 : Int), .int .i64 (G2 : Int), .slice ua G3.length uc] 24)); obtain ⟨⟨c0, c1, c2, c3⟩, -⟩ := cells4 hx6; have hlt6 : w5.heap.size < w6.heap.size := by simp at hz6; omega)
      | (at_builtin; refine wpList_append_own _ rfl _ _ 93 rfl w.heap.size 24 i0 (.agg #[.int .i64 0, .int .i64 0, .int .i64 0, .slice none 0 0]) 4 48 Try.underlying93 hi hz0 hz1 hz2 rfl (by decide) _ es.length (entCells es) rfl (((((hE.kept hg4 HQL.out).row.kept (Below.grownBy' hB5 none) (by cases va <;> simp [Value.ownBlock])).alloc _).kept hg6 (by cases hva : (Value.slice va es.length vc).ownBlock with | none => exact .inl rfl | some k => exact .inr (fun e => by cases e; have := (hE.row.lt Q hva).1; have := HQL.out; omega))).alloc _) ⟨w6.heap.size, 0, none⟩ 1 1 [.int .i64 (G0 : Int), .int .i64 (G1 : Int), .int .i64 (G2 : Int), .slice ua G3.length uc] rfl rfl (cell_four_new w6 _ _ _ _ 24) (by intro u hu; simp at hu; rcases hu with rfl | rfl | rfl | rfl <;> rfl) (by unfold maxLen; omega) (by omega) (by have := hg2.size; have := hg4.size; have := hB5.size; simp; omega) ?_; intro v7 w7 hown7 hgrow7 _))
    have z1 := HQL.out
    have z2 := hg2.size
    have z4 := hg4.size
    have z5 := hB5.size
    have q4 := hE.kept hg4 HQL.out
    have q5 : EntsOw w.heap.size w5 (.slice va es.length vc) es := ⟨q4.row.kept (Below.grownBy' hB5 none) (by cases va <;> simp [Value.ownBlock]), fun e he => (q4.dat e he).below hB5 (Nat.le_refl _)⟩
    have q6 := ((q5.alloc (.cells #[.int .i64 (G0 : Int), .int .i64 (G1 : Int), .int .i64 (G2 : Int), .slice ua G3.length uc] 24)).kept hg6 HQL.out).alloc (.cells #[.int .i64 (G0 : Int), .int .i64 (G1 : Int), .int .i64 (G2 : Int), .slice ua G3.length uc] 24)
    have o5 := (hO5.base (N' := w.heap.size) (by omega)).alloc (.cells #[.int .i64 (G0 : Int), .int .i64 (G1 : Int), .int .i64 (G2 : Int), .slice ua G3.length uc] 24)
    have o6 := (o5.kept hg6 (by
      cases hva : (Value.slice ua G3.length uc).ownBlock with
      | none => exact .inl rfl
      | some k => exact .inr (fun e => by cases e; have := (World.ownsRow.lt o5 Q hva).1; omega))).alloc (.cells #[.int .i64 (G0 : Int), .int .i64 (G1 : Int), .int .i64 (G2 : Int), .slice ua G3.length uc] 24)
    have hE7 := q6.push (e := ⟨(G0 : Int), (G1 : Int), (G2 : Int), ua, uc, G3⟩) o6 hown7 hgrow7
    have hgk : ∀ k, (Value.slice va es.length vc).ownBlock = some k → w.heap.size ≤ k := fun k hk => (hE.row.lt k hk).1
    have hB6 : Below w6.heap.size w6 (w6.alloc (.cells #[.int .i64 (G0 : Int), .int .i64 (G1 : Int), .int .i64 (G2 : Int), .slice ua G3.length uc] 24)) := (Below.refl _ w6).alloc (Nat.le_refl _) _
    have hR7 := (h6.mono hB6).grown hgrow7 (fun k hk => by have := hgk k hk; omega)
    have hG5 : w.grownBy (w5.alloc (.cells #[.int .i64 (G0 : Int), .int .i64 (G1 : Int), .int .i64 (G2 : Int), .slice ua G3.length uc] 24)) (some Q) := grown_trans (grown_trans (grown_trans hg2 hg4 (fun k e => .inl e)) (Below.grownBy' hB5 none) (by simp)) (World.grownBy_alloc w5 _ none) (by simp)
    have hG7 : w.grownBy w7 (some Q) := grown_trans (grown_trans (grown_trans hG5 hg6 (fun k e => .inl e)) (Below.grownBy' hB6 none) (by simp)) hgrow7 (fun k hk => .inr (hgk k hk))
    obtain ⟨va7, vc7, rfl⟩ := hE7.shape
    refine ⟨⟨j + 1, p3, E4, vc7, va7, es ++ [⟨(G0 : Int), (G1 : Int), (G2 : Int), ua, uc, G3⟩], by go_num, rfl, by omega, by simp; omega, hE7, hR7, hG7, ?_⟩, by simp [intOf]; omega⟩
    by_cases h40 : E4 = 0
    · rw [HM.out]
      obtain ⟨y1, y2, y3⟩ := HXN.out.2 h40
      exact .inr ⟨h40, he1, by simp [HEL.out], y1, y2, y3 ua uc⟩
    · exact .inl ⟨h40, HXN.out.1 h40⟩
end Go.Proofs.Ytfnnbfgfmbiabaa

/-
  The document's GetMessage: the reader and the message; what is no message.
-/
namespace Go.Proofs.Ytfnnbfgfmbiabaa
open Go.RowKit Go.Shelf

/-- The document's reader, and the message that it fills. -/
structure Gm (w0 w : World) (Q X : Nat) (v : Value) (l : List UInt8) (p e : Nat) (cs : Array Value) : Prop where
  rq : Rq w0 w Q v l p e
  qx : Q < X
  blk : w.heap[X]? = some (.cells cs 95 (0, 0))
theorem Gm.lt {w0 w : World} {Q X : Nat} {v : Value} {l : List UInt8} {p e : Nat} {cs : Array Value} (h : Gm w0 w Q X v l p e cs) : X < w.heap.size := (Array.getElem?_eq_some_iff.1 h.blk).1
theorem Gm.turn {w0 w w' : World} {Q X : Nat} {v : Value} {l : List UInt8} {p e p' e' : Nat} {cs : Array Value} (h : Gm w0 w Q X v l p e cs) (h' : Rq w0 w' Q v l p' e') (hg : w.grownBy w' (some Q)) : Gm w0 w' Q X v l p' e' cs :=
  ⟨h', h.qx, (hg.block X h.lt (by have := h.qx; simp; omega)).trans h.blk⟩
theorem Gm.mono {w0 w w' : World} {Q X : Nat} {v : Value} {l : List UInt8} {p e : Nat} {cs : Array Value} (h : Gm w0 w Q X v l p e cs) (hB : Below w.heap.size w w') : Gm w0 w' Q X v l p e cs :=
  ⟨h.rq.mono hB, h.qx, (hB.block X h.lt).trans h.blk⟩
theorem Gm.set {w0 w : World} {Q X : Nat} {v : Value} {l : List UInt8} {p e : Nat} {cs : Array Value} (h : Gm w0 w Q X v l p e cs) (o : Nat) (u : Value) : Gm w0 (w.setCell ⟨X, o, none⟩ u) Q X v l p e (cs.setIfInBounds o u) :=
  ⟨h.rq.grown (grown_set w X o u) (fun k hk => by cases hk; exact h.qx), h.qx, heap_set h.blk o u⟩
theorem gmI {w0 w : World} {Q X : Nat} {v : Value} {l : List UInt8} {a e n a' e' : Nat} {cs : Array Value} (h : Gm w0 w Q X v l a e cs) (hr : Hid (rdN l (a, e) = (n, (a', e')))) :
    Calls Try.prog 68 #[.pointer (some ⟨Q, 0, none⟩)] w fun r w' => r = .returned (.int .i64 (n : Int)) ∧ Gm w0 w' Q X v l a' e' cs := by
  refine (rqIg h.rq hr).mono ?_
  rintro r w' ⟨rfl, h', hg⟩
  exact ⟨rfl, h.turn h' hg⟩
theorem gmT {w0 w : World} {Q X : Nat} {v : Value} {l : List UInt8} {a e a' e' : Nat} {n : Bool} {cs : Array Value} (h : Gm w0 w Q X v l a e cs) (hr : Hid (rdT l (a, e) = (n, (a', e')))) :
    Calls Try.prog 98 #[.pointer (some ⟨Q, 0, none⟩)] w fun r w' => r = .returned (.bool n) ∧ Gm w0 w' Q X v l a' e' cs := by
  refine (rqTg h.rq hr).mono ?_
  rintro r w' ⟨rfl, h', hg⟩
  exact ⟨rfl, h.turn h' hg⟩
theorem gm_new {w0 w : World} {Q : Nat} {v : Value} {l : List UInt8} {p e : Nat} (h : Rq w0 w Q v l p e) (cs : Array Value) : Gm w0 (w.alloc (.cells cs 95)) Q w.heap.size v l p e cs :=
  ⟨h.mono ((Below.refl _ _).alloc (Nat.le_refl _) _), h.rrd.lt, World.alloc_heap_new w _⟩

theorem rdN_err (l : List UInt8) (a e : Nat) (h : e ≠ 0) : rdN l (a, e) = (0, (a, e)) := by
  unfold rdN pk; simp [h]
theorem doneE_err (l : List UInt8) (a e : Nat) (h : e ≠ 0) : doneE l a e = e := by
  unfold doneE; simp [h]

set_option maxRecDepth 100000 in
set_option maxHeartbeats 8000000 in
theorem refGetNo_any (b : List UInt8) (v : Value) (M : Nat) (w : World) (hv : Sl M w v b) (hM : M ≤ w.heap.size) (hb : b.length ≤ 20000) {n p0 e0 : Nat}
    (H0 : Hid (rdN b (0, 0) = (n, (p0, e0)))) (hK : isIn (n : Int) 1 7 = false) (E : Nat) (hE : E = if e0 = 0 then 6 else e0) :
    Calls Try.prog 52 #[v] w fun r w' => r = .returned (.tuple #[.agg #[.int .i64 0, .int .i64 0, .int .i64 0, .int .i64 0, .int .i64 0, .int .i64 0, .int .i64 0, .int .i64 0, .int .i64 0, .bool false, .slice none 0 0, .int .i64 0, .int .i64 0, .slice none 0 0], .int .i64 (E : Int)]) ∧ Below w.heap.size w w' := by
  obtain ⟨a, cap, rfl, -⟩ := id hv
  have hB0 : Below w.heap.size w (w.alloc (.cells #[.int .i64 0, .int .i64 0, .int .i64 0, .int .i64 0, .int .i64 0, .int .i64 0, .int .i64 0, .int .i64 0, .int .i64 0, .bool false, .slice none 0 0, .int .i64 0, .int .i64 0, .slice none 0 0] 95)) := (Below.refl _ w).alloc (Nat.le_refl _) _
  have hq := newQ (hv.below (hB0.mono hM)) (by simp; omega) hb
  simp only [World.size_alloc] at hq
  have HR : Hid ((w.alloc (.cells #[.int .i64 0, .int .i64 0, .int .i64 0, .int .i64 0, .int .i64 0, .int .i64 0, .int .i64 0, .int .i64 0, .int .i64 0, .bool false, .slice none 0 0, .int .i64 0, .int .i64 0, .slice none 0 0] 95)).heap[w.heap.size]? = some (.cells #[.int .i64 0, .int .i64 0, .int .i64 0, .int .i64 0, .int .i64 0, .int .i64 0, .int .i64 0, .int .i64 0, .int .i64 0, .bool false, .slice none 0 0, .int .i64 0, .int .i64 0, .slice none 0 0] 95 (0, 0))) := World.alloc_heap_new w _
  have HB0 : Hid (Below w.heap.size w (w.alloc (.cells #[.int .i64 0, .int .i64 0, .int .i64 0, .int .i64 0, .int .i64 0, .int .i64 0, .int .i64 0, .int .i64 0, .int .i64 0, .bool false, .slice none 0 0, .int .i64 0, .int .i64 0, .slice none 0 0] 95))) := hB0
  clear hB0
  have hE0 : E ≠ 0 := by rw [hE]; split <;> omega
  have Ha : Hid (rdN b (p0, E) = (0, (p0, E))) := rdN_err _ _ _ hE0
  have HD : Hid (doneE b p0 E = E) := doneE_err _ _ _ hE0
  have HE : Hid (E = if e0 = 0 then 6 else e0) := hE
  have hke : ((E : Int) == 0) = false := by simp; omega
  have hke2 : ((E : Int) != 0) = true := by simp; omega
  have hn : ¬ (1 ≤ (n : Int) ∧ (n : Int) ≤ 7) := by intro ⟨a, b⟩; simp [isIn] at hK; omega
  have hn1 : ((n : Int) == 1) = false := by simp; omega
  have hn2 : ((n : Int) == 2) = false := by simp; omega
  have hn3 : ((n : Int) == 3) = false := by simp; omega
  have hn4 : ((n : Int) == 4) = false := by simp; omega
  have hn5 : ((n : Int) == 5) = false := by simp; omega
  have hn6 : ((n : Int) == 6) = false := by simp; omega
  have hn7 : ((n : Int) == 7) = false := by simp; omega
  clear hE hn
  go_enter Try.func52, Try.ntmps52
  go_wp2_with fail
  refine (rqIg hq H0).mono ?_
  rintro r w1 ⟨rfl, h1, -⟩
  go_wp2_with (go_at_call 62; refine (refWithin_any _ _ _ _).mono ?_; rintro e w' ⟨rfl, hw⟩; subst w'; simp only [hK])
  have g0 := gm_new h1 #[.int .i64 (n : Int), .int .i64 0, .int .i64 0, .int .i64 0, .int .i64 0, .int .i64 0, .int .i64 0, .int .i64 0, .int .i64 0, .bool false, .slice none 0 0, .int .i64 0, .int .i64 0, .slice none 0 0]
  have HLX : Hid (w.heap.size < w1.heap.size) := by have := h1.bel.size; show w.heap.size < w1.heap.size; simp at this; omega
  refine (refFail_any 6 g0.rq).mono ?_
  rintro r w1f ⟨rfl, h1f, hgf⟩
  rw [← HE.out] at h1f
  have g1 := g0.turn h1f hgf
  clear h1f hgf g0
  go_wp2_with fail
  refine (gmI g1 Ha).mono ?_
  rintro r w2 ⟨rfl, k2⟩
  obtain ⟨⟨q0, q1, q2, q3, q4, q5, q6, q7, q8, q9, q10, q11, q12, q13⟩, f0, f1, f2, f3, f4, f5, f6, f7, f8, f9, f10, f11, f12, f13⟩ := cells14 k2.blk
  have hl2 := k2.lt
  have g2 : Gm _ (w2.setCell ⟨w1.heap.size, 1, none⟩ (.int .i64 ((0 : Nat) : Int))) _ w1.heap.size _ b p0 E #[.int .i64 (n : Int), .int .i64 ((0 : Nat) : Int), .int .i64 0, .int .i64 0, .int .i64 0, .int .i64 0, .int .i64 0, .int .i64 0, .int .i64 0, .bool false, .slice none 0 0, .int .i64 0, .int .i64 0, .slice none 0 0] := k2.set 1 (.int .i64 ((0 : Nat) : Int))
  clear g1 k2
  go_wp2_with fail
  refine (gmI g2 Ha).mono ?_
  rintro r w3 ⟨rfl, k3⟩
  obtain ⟨⟨q0, q1, q2, q3, q4, q5, q6, q7, q8, q9, q10, q11, q12, q13⟩, f0, f1, f2, f3, f4, f5, f6, f7, f8, f9, f10, f11, f12, f13⟩ := cells14 k3.blk
  have hl3 := k3.lt
  have g3 : Gm _ (w3.setCell ⟨w1.heap.size, 2, none⟩ (.int .i64 ((0 : Nat) : Int))) _ w1.heap.size _ b p0 E #[.int .i64 (n : Int), .int .i64 ((0 : Nat) : Int), .int .i64 ((0 : Nat) : Int), .int .i64 0, .int .i64 0, .int .i64 0, .int .i64 0, .int .i64 0, .int .i64 0, .bool false, .slice none 0 0, .int .i64 0, .int .i64 0, .slice none 0 0] := k3.set 2 (.int .i64 ((0 : Nat) : Int))
  clear g2 k3
  go_wp2_with fail
  refine (gmI g3 Ha).mono ?_
  rintro r w4 ⟨rfl, k4⟩
  obtain ⟨⟨q0, q1, q2, q3, q4, q5, q6, q7, q8, q9, q10, q11, q12, q13⟩, f0, f1, f2, f3, f4, f5, f6, f7, f8, f9, f10, f11, f12, f13⟩ := cells14 k4.blk
  have hl4 := k4.lt
  have g4 : Gm _ (w4.setCell ⟨w1.heap.size, 3, none⟩ (.int .i64 ((0 : Nat) : Int))) _ w1.heap.size _ b p0 E #[.int .i64 (n : Int), .int .i64 ((0 : Nat) : Int), .int .i64 ((0 : Nat) : Int), .int .i64 ((0 : Nat) : Int), .int .i64 0, .int .i64 0, .int .i64 0, .int .i64 0, .int .i64 0, .bool false, .slice none 0 0, .int .i64 0, .int .i64 0, .slice none 0 0] := k4.set 3 (.int .i64 ((0 : Nat) : Int))
  clear g3 k4
  obtain ⟨⟨q0, q1, q2, q3, q4, q5, q6, q7, q8, q9, q10, q11, q12, q13⟩, -⟩ := cells14 g4.blk
  go_wp2_with fail
  refine (rqDone_any g4.rq).mono ?_
  rintro r w20 ⟨rfl, hB20⟩
  have g20 := g4.mono hB20
  have HR20 : Hid (w20.heap[w.heap.size]? = some (.cells #[.int .i64 0, .int .i64 0, .int .i64 0, .int .i64 0, .int .i64 0, .int .i64 0, .int .i64 0, .int .i64 0, .int .i64 0, .bool false, .slice none 0 0, .int .i64 0, .int .i64 0, .slice none 0 0] 95 (0, 0))) := (g20.rq.bel.block _ (by simp)).trans HR.out
  have HB20 : Hid (Below w.heap.size w w20) := HB0.out.trans (g20.rq.bel.mono (by simp))
  have hl20 : w.heap.size < w20.heap.size := by have := g20.lt; have := HLX.out; omega
  clear g4 g20 hB20 h1 q0 q1 q2 q3 q4 q5 q6 q7 q8 q9 q10 q11 q12 q13 f0 f1 f2 f3 f4 f5 f6 f7 f8 f9 f10 f11 f12 f13
  rw [HD.out]
  obtain ⟨⟨r0, r1, r2, r3, r4, r5, r6, r7, r8, r9, r10, r11, r12, r13⟩, f0, f1, f2, f3, f4, f5, f6, f7, f8, f9, f10, f11, f12, f13⟩ := cells14 HR20.out
  go_wp2
  refine bodyPost_ret (results_95 rfl _ _ w.heap.size rfl (set14 HR20.out _ _ _ _ _ _ _ _ _ _ _ _ _ _)) rfl ?_
  exact ⟨by simp, belset14 HB20.out (by omega) _ _ _ _ _ _ _ _ _ _ _ _ _ _⟩

end Go.Proofs.Ytfnnbfgfmbiabaa

