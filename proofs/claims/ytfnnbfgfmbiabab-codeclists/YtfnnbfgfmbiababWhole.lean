/-
  A read thing whole: what the generic function answers, at each kind.
-/
import Derived.Test.YtfnnbfgfmbiababPutA
import Derived.Handy
namespace Go.Proofs.Ytfnnbfgfmbiabab
open Go.RowKit Go.Shelf

theorem bel_set {N : Nat} {w w' : World} {B o : Nat} (h : Below N w w') (hB : N ≤ B) (v : Value) : Below N w (w'.setCell ⟨B, o, none⟩ v) := h.setCell (p := ⟨B, o, none⟩) hB v

theorem Sl.grow {M B : Nat} {w w' : World} {v : Value} {l : List UInt8} (h : Sl M w v l) (hM : M ≤ w.heap.size) (hg : w.grownBy w' (some B)) (hne : l ≠ [] → v.ownBlock ≠ some B) : Sl w'.heap.size w' v l := by
  obtain ⟨a, cap, rfl, h1, h2, h3⟩ := h
  refine ⟨a, cap, rfl, h1, h2, ?_⟩
  by_cases hl : l = []
  · exact .inl hl
  · obtain ⟨b, off, rfl, hb, hc⟩ := h3.resolve_left hl
    have hz := hg.size
    refine .inr ⟨b, off, rfl, by omega, fun i hi => ?_⟩
    exact (World.cell?_of_block (hg.block b (by omega) (fun e => hne hl (by simp [Value.ownBlock, e]))) ).trans (hc i hi)
theorem Sl.not_at {M : Nat} {w : World} {v : Value} {l : List UInt8} (h : Sl M w v l) {R : Nat} {cs : Array Value} {t : TypeId} {z : Nat × Nat} (hR : w.heap[R]? = some (.cells cs t z)) (hcs : ∀ (i : Nat) (b : UInt8), cs[i]? ≠ some (encB b)) : l ≠ [] → v.ownBlock ≠ some R := by
  intro hl e
  obtain ⟨a, cap, rfl, h1, h2, h3⟩ := h
  obtain ⟨b, off, rfl, hb, hc⟩ := h3.resolve_left hl
  have hbR : b = R := by simpa [Value.ownBlock] using e
  subst hbR
  have h0 := hc 0 (List.length_pos_iff.2 hl)
  simp only [World.cell?, hR] at h0
  exact hcs _ _ h0

theorem cells2 {w : World} {B : Nat} {x0 x1 : Value} {t : TypeId} (h : w.heap[B]? = some (.cells #[x0, x1] t (0, 0))) :
    (w.cell? ⟨B, 0, none⟩ = some x0 ∧ w.cell? ⟨B, 1, none⟩ = some x1) ∧ (w.frozen? ⟨B, 0, none⟩ = false ∧ w.frozen? ⟨B, 1, none⟩ = false) := by
  refine ⟨⟨?_, ?_⟩, ⟨?_, ?_⟩⟩ <;> simp [World.cell?, World.frozen?, h]
theorem set2 {w : World} {B : Nat} {x0 x1 : Value} {t : TypeId} (h : w.heap[B]? = some (.cells #[x0, x1] t (0, 0))) (y0 y1 : Value) :
    ((w.setCell ⟨B, 0, none⟩ y0).setCell ⟨B, 1, none⟩ y1).heap[B]? = some (.cells #[y0, y1] t (0, 0)) := by
  rw [heap_set (heap_set h 0 y0) 1 y1]; rfl
theorem belset2 {N : Nat} {w0 w : World} {B : Nat} (h : Below N w0 w) (hB : N ≤ B) (y0 y1 : Value) : Below N w0 ((w.setCell ⟨B, 0, none⟩ y0).setCell ⟨B, 1, none⟩ y1) :=
  bel_set (bel_set h hB _) hB _
theorem grownset2 (w : World) (B : Nat) (y0 y1 : Value) : w.grownBy ((w.setCell ⟨B, 0, none⟩ y0).setCell ⟨B, 1, none⟩ y1) (some B) :=
  grown_trans (grown_set _ _ _ _) (grown_set _ _ _ _) (fun _ e => .inl e)
theorem cells3 {w : World} {B : Nat} {x0 x1 x2 : Value} {t : TypeId} (h : w.heap[B]? = some (.cells #[x0, x1, x2] t (0, 0))) :
    (w.cell? ⟨B, 0, none⟩ = some x0 ∧ w.cell? ⟨B, 1, none⟩ = some x1 ∧ w.cell? ⟨B, 2, none⟩ = some x2) ∧ (w.frozen? ⟨B, 0, none⟩ = false ∧ w.frozen? ⟨B, 1, none⟩ = false ∧ w.frozen? ⟨B, 2, none⟩ = false) := by
  refine ⟨⟨?_, ?_, ?_⟩, ⟨?_, ?_, ?_⟩⟩ <;> simp [World.cell?, World.frozen?, h]
theorem set3 {w : World} {B : Nat} {x0 x1 x2 : Value} {t : TypeId} (h : w.heap[B]? = some (.cells #[x0, x1, x2] t (0, 0))) (y0 y1 y2 : Value) :
    (((w.setCell ⟨B, 0, none⟩ y0).setCell ⟨B, 1, none⟩ y1).setCell ⟨B, 2, none⟩ y2).heap[B]? = some (.cells #[y0, y1, y2] t (0, 0)) := by
  rw [heap_set (heap_set (heap_set h 0 y0) 1 y1) 2 y2]; rfl
theorem belset3 {N : Nat} {w0 w : World} {B : Nat} (h : Below N w0 w) (hB : N ≤ B) (y0 y1 y2 : Value) : Below N w0 (((w.setCell ⟨B, 0, none⟩ y0).setCell ⟨B, 1, none⟩ y1).setCell ⟨B, 2, none⟩ y2) :=
  bel_set (bel_set (bel_set h hB _) hB _) hB _
theorem grownset3 (w : World) (B : Nat) (y0 y1 y2 : Value) : w.grownBy (((w.setCell ⟨B, 0, none⟩ y0).setCell ⟨B, 1, none⟩ y1).setCell ⟨B, 2, none⟩ y2) (some B) :=
  grown_trans (grown_trans (grown_set _ _ _ _) (grown_set _ _ _ _) (fun _ e => .inl e)) (grown_set _ _ _ _) (fun _ e => .inl e)
theorem cells4 {w : World} {B : Nat} {x0 x1 x2 x3 : Value} {t : TypeId} (h : w.heap[B]? = some (.cells #[x0, x1, x2, x3] t (0, 0))) :
    (w.cell? ⟨B, 0, none⟩ = some x0 ∧ w.cell? ⟨B, 1, none⟩ = some x1 ∧ w.cell? ⟨B, 2, none⟩ = some x2 ∧ w.cell? ⟨B, 3, none⟩ = some x3) ∧ (w.frozen? ⟨B, 0, none⟩ = false ∧ w.frozen? ⟨B, 1, none⟩ = false ∧ w.frozen? ⟨B, 2, none⟩ = false ∧ w.frozen? ⟨B, 3, none⟩ = false) := by
  refine ⟨⟨?_, ?_, ?_, ?_⟩, ⟨?_, ?_, ?_, ?_⟩⟩ <;> simp [World.cell?, World.frozen?, h]
theorem set4 {w : World} {B : Nat} {x0 x1 x2 x3 : Value} {t : TypeId} (h : w.heap[B]? = some (.cells #[x0, x1, x2, x3] t (0, 0))) (y0 y1 y2 y3 : Value) :
    ((((w.setCell ⟨B, 0, none⟩ y0).setCell ⟨B, 1, none⟩ y1).setCell ⟨B, 2, none⟩ y2).setCell ⟨B, 3, none⟩ y3).heap[B]? = some (.cells #[y0, y1, y2, y3] t (0, 0)) := by
  rw [heap_set (heap_set (heap_set (heap_set h 0 y0) 1 y1) 2 y2) 3 y3]; rfl
theorem belset4 {N : Nat} {w0 w : World} {B : Nat} (h : Below N w0 w) (hB : N ≤ B) (y0 y1 y2 y3 : Value) : Below N w0 ((((w.setCell ⟨B, 0, none⟩ y0).setCell ⟨B, 1, none⟩ y1).setCell ⟨B, 2, none⟩ y2).setCell ⟨B, 3, none⟩ y3) :=
  bel_set (bel_set (bel_set (bel_set h hB _) hB _) hB _) hB _
theorem grownset4 (w : World) (B : Nat) (y0 y1 y2 y3 : Value) : w.grownBy ((((w.setCell ⟨B, 0, none⟩ y0).setCell ⟨B, 1, none⟩ y1).setCell ⟨B, 2, none⟩ y2).setCell ⟨B, 3, none⟩ y3) (some B) :=
  grown_trans (grown_trans (grown_trans (grown_set _ _ _ _) (grown_set _ _ _ _) (fun _ e => .inl e)) (grown_set _ _ _ _) (fun _ e => .inl e)) (grown_set _ _ _ _) (fun _ e => .inl e)
theorem cells6 {w : World} {B : Nat} {x0 x1 x2 x3 x4 x5 : Value} {t : TypeId} (h : w.heap[B]? = some (.cells #[x0, x1, x2, x3, x4, x5] t (0, 0))) :
    (w.cell? ⟨B, 0, none⟩ = some x0 ∧ w.cell? ⟨B, 1, none⟩ = some x1 ∧ w.cell? ⟨B, 2, none⟩ = some x2 ∧ w.cell? ⟨B, 3, none⟩ = some x3 ∧ w.cell? ⟨B, 4, none⟩ = some x4 ∧ w.cell? ⟨B, 5, none⟩ = some x5) ∧ (w.frozen? ⟨B, 0, none⟩ = false ∧ w.frozen? ⟨B, 1, none⟩ = false ∧ w.frozen? ⟨B, 2, none⟩ = false ∧ w.frozen? ⟨B, 3, none⟩ = false ∧ w.frozen? ⟨B, 4, none⟩ = false ∧ w.frozen? ⟨B, 5, none⟩ = false) := by
  refine ⟨⟨?_, ?_, ?_, ?_, ?_, ?_⟩, ⟨?_, ?_, ?_, ?_, ?_, ?_⟩⟩ <;> simp [World.cell?, World.frozen?, h]
theorem set6 {w : World} {B : Nat} {x0 x1 x2 x3 x4 x5 : Value} {t : TypeId} (h : w.heap[B]? = some (.cells #[x0, x1, x2, x3, x4, x5] t (0, 0))) (y0 y1 y2 y3 y4 y5 : Value) :
    ((((((w.setCell ⟨B, 0, none⟩ y0).setCell ⟨B, 1, none⟩ y1).setCell ⟨B, 2, none⟩ y2).setCell ⟨B, 3, none⟩ y3).setCell ⟨B, 4, none⟩ y4).setCell ⟨B, 5, none⟩ y5).heap[B]? = some (.cells #[y0, y1, y2, y3, y4, y5] t (0, 0)) := by
  rw [heap_set (heap_set (heap_set (heap_set (heap_set (heap_set h 0 y0) 1 y1) 2 y2) 3 y3) 4 y4) 5 y5]; rfl
theorem belset6 {N : Nat} {w0 w : World} {B : Nat} (h : Below N w0 w) (hB : N ≤ B) (y0 y1 y2 y3 y4 y5 : Value) : Below N w0 ((((((w.setCell ⟨B, 0, none⟩ y0).setCell ⟨B, 1, none⟩ y1).setCell ⟨B, 2, none⟩ y2).setCell ⟨B, 3, none⟩ y3).setCell ⟨B, 4, none⟩ y4).setCell ⟨B, 5, none⟩ y5) :=
  bel_set (bel_set (bel_set (bel_set (bel_set (bel_set h hB _) hB _) hB _) hB _) hB _) hB _
theorem grownset6 (w : World) (B : Nat) (y0 y1 y2 y3 y4 y5 : Value) : w.grownBy ((((((w.setCell ⟨B, 0, none⟩ y0).setCell ⟨B, 1, none⟩ y1).setCell ⟨B, 2, none⟩ y2).setCell ⟨B, 3, none⟩ y3).setCell ⟨B, 4, none⟩ y4).setCell ⟨B, 5, none⟩ y5) (some B) :=
  grown_trans (grown_trans (grown_trans (grown_trans (grown_trans (grown_set _ _ _ _) (grown_set _ _ _ _) (fun _ e => .inl e)) (grown_set _ _ _ _) (fun _ e => .inl e)) (grown_set _ _ _ _) (fun _ e => .inl e)) (grown_set _ _ _ _) (fun _ e => .inl e)) (grown_set _ _ _ _) (fun _ e => .inl e)
theorem results_45 {fn : Func} {t u : Tmp} (h : fn.results = #[.cell t 43, .tmp u]) (tmps : Array Value) (w : World) (B : Nat) {x0 x1 x2 : Value} (ht : tmps.getD t undef = .pointer (some ⟨B, 0, none⟩)) (hb : w.heap[B]? = some (.cells #[x0, x1, x2] 43 (0, 0))) :
    (results fn tmps).run Try.prog w = .ok (.tuple #[.agg #[x0, x1, x2], tmps.getD u undef]) w := by
  obtain ⟨⟨c0, c1, c2⟩, -⟩ := cells3 hb
  have ht' : tmps[t]?.getD undef = .pointer (some ⟨B, 0, none⟩) := by rw [← Array.getD_eq_getD_getElem?]; exact ht
  simp [results, h, ht', asAddr, loadVar, c0, c1, c2, go_sem]
theorem results_57 {fn : Func} {t u : Tmp} (h : fn.results = #[.cell t 47, .tmp u]) (tmps : Array Value) (w : World) (B : Nat) {x0 x1 x2 : Value} (ht : tmps.getD t undef = .pointer (some ⟨B, 0, none⟩)) (hb : w.heap[B]? = some (.cells #[x0, x1, x2] 47 (0, 0))) :
    (results fn tmps).run Try.prog w = .ok (.tuple #[.agg #[x0, x1, x2], tmps.getD u undef]) w := by
  obtain ⟨⟨c0, c1, c2⟩, -⟩ := cells3 hb
  have ht' : tmps[t]?.getD undef = .pointer (some ⟨B, 0, none⟩) := by rw [← Array.getD_eq_getD_getElem?]; exact ht
  simp [results, h, ht', asAddr, loadVar, c0, c1, c2, go_sem]
theorem results_24 {fn : Func} {t u : Tmp} (h : fn.results = #[.cell t 26, .tmp u]) (tmps : Array Value) (w : World) (B : Nat) {x0 x1 x2 x3 : Value} (ht : tmps.getD t undef = .pointer (some ⟨B, 0, none⟩)) (hb : w.heap[B]? = some (.cells #[x0, x1, x2, x3] 26 (0, 0))) :
    (results fn tmps).run Try.prog w = .ok (.tuple #[.agg #[x0, x1, x2, x3], tmps.getD u undef]) w := by
  obtain ⟨⟨c0, c1, c2, c3⟩, -⟩ := cells4 hb
  have ht' : tmps[t]?.getD undef = .pointer (some ⟨B, 0, none⟩) := by rw [← Array.getD_eq_getD_getElem?]; exact ht
  simp [results, h, ht', asAddr, loadVar, c0, c1, c2, c3, go_sem]
theorem results_70 {fn : Func} {t u : Tmp} (h : fn.results = #[.cell t 45, .tmp u]) (tmps : Array Value) (w : World) (B : Nat) {x0 x1 x2 x3 x4 x5 : Value} (ht : tmps.getD t undef = .pointer (some ⟨B, 0, none⟩)) (hb : w.heap[B]? = some (.cells #[x0, x1, x2, x3, x4, x5] 45 (0, 0))) :
    (results fn tmps).run Try.prog w = .ok (.tuple #[.agg #[x0, x1, x2, x3, x4, x5], tmps.getD u undef]) w := by
  obtain ⟨⟨c0, c1, c2, c3, c4, c5⟩, -⟩ := cells6 hb
  have ht' : tmps[t]?.getD undef = .pointer (some ⟨B, 0, none⟩) := by rw [← Array.getD_eq_getD_getElem?]; exact ht
  simp [results, h, ht', asAddr, loadVar, c0, c1, c2, c3, c4, c5, go_sem]

set_option maxRecDepth 100000 in
set_option maxHeartbeats 2000000 in
theorem wholeState_any {w0 : World} (t v c : Int) (R : Nat) (l : List UInt8) (p e : Nat) (w : World) (h : Rr w0 w R l p e) (E : Nat) (hE : E = if doneE l p e = 0 then ckState t v c else doneE l p e) :
    Calls Try.prog 130 #[.pointer (some ⟨R, 0, none⟩), .iface 56 (.agg #[]), .agg #[.int .i64 t, .int .i64 v, .int .i64 c]] w fun r w' =>
      r = .returned (.tuple #[if E = 0 then .agg #[.int .i64 t, .int .i64 v, .int .i64 c] else .agg #[.int .i64 0, .int .i64 0, .int .i64 0], .int .i64 (E : Int)]) ∧ Below w.heap.size w w' := by
  obtain ⟨W0, hW0⟩ : ∃ W0, (w.alloc (.cells #[.int .i64 t, .int .i64 v, .int .i64 c] 43)).alloc (.cells #[.int .i64 0, .int .i64 0, .int .i64 0] 43) = W0 := ⟨_, rfl⟩
  have HW0 : Hid ((w.alloc (.cells #[.int .i64 t, .int .i64 v, .int .i64 c] 43)).alloc (.cells #[.int .i64 0, .int .i64 0, .int .i64 0] 43) = W0) := hW0
  have HB0 : Hid (Below w.heap.size w W0) := by show Below w.heap.size w W0; rw [← hW0]; exact (((Below.refl _ w).alloc (by simp) _).alloc (by simp) _)
  have HS : Hid (W0.heap.size = w.heap.size + 2) := by show W0.heap.size = _; rw [← hW0]; simp
  have HX : Hid (W0.heap[w.heap.size]? = some (.cells #[.int .i64 t, .int .i64 v, .int .i64 c] 43 (0, 0))) := by
    show W0.heap[w.heap.size]? = _
    rw [← hW0]; exact (((Below.refl (w.heap.size + 1) (w.alloc _)).alloc (by simp) _).block _ (by simp)).trans (World.alloc_heap_new w _)
  have HR : Hid (W0.heap[w.heap.size + 1]? = some (.cells #[.int .i64 0, .int .i64 0, .int .i64 0] 43 (0, 0))) := by
    show W0.heap[w.heap.size + 1]? = _
    rw [← hW0]; simpa using World.alloc_heap_new (w.alloc (.cells #[.int .i64 t, .int .i64 v, .int .i64 c] 43)) _
  have h0 : Rr w0 W0 R l p e := h.mono HB0.out
  have ck1 := fun w' => ckState_any t v c w'
  clear hW0
  by_cases he : doneE l p e = 0
  · rw [if_pos he] at hE
    go_enter Try.func130, Try.ntmps130
    go_wp2_with fail
    rw [HW0.out]
    refine (rrDone_any h0).mono ?_
    rintro r w1 ⟨rfl, hB1⟩
    rw [he]
    obtain ⟨⟨q0, q1, q2⟩, -⟩ := cells3 ((hB1.block w.heap.size (by have := HS.out; omega)).trans HX.out)
    rw [← hE] at ck1
    go_wp2_with fail
    refine (ck1 w1).mono ?_
    rintro r w2 ⟨rfl, hB2⟩
    have hB2' : Below W0.heap.size W0 w2 := hB1.trans (hB2.mono hB1.size)
    by_cases hEn : E = 0
    · clear hE
      subst hEn
      have hr2 := (hB2'.block (w.heap.size + 1) (by have := HS.out; omega)).trans HR.out
      obtain ⟨⟨q0, q1, q2⟩, -⟩ := cells3 ((hB2'.block w.heap.size (by have := HS.out; omega)).trans HX.out)
      obtain ⟨⟨r0, r1, r2⟩, f0, f1, f2⟩ := cells3 hr2
      have HF : Hid (Below w.heap.size w w2) := HB0.out.trans (hB2'.mono HB0.out.size)
      have HR2 : Hid (w2.heap[w.heap.size + 1]? = some (.cells #[.int .i64 0, .int .i64 0, .int .i64 0] 43 (0, 0))) := hr2
      clear hr2 hB2 hB2' hB1 h0 h ck1
      go_wp2
      refine bodyPost_ret (results_45 rfl _ _ (w.heap.size + 1) rfl (set3 HR2.out _ _ _)) rfl ?_
      exact ⟨by simp, belset3 HF.out (by omega) _ _ _⟩
    · have hke : ((E : Int) != 0) = true := by simp; omega
      clear hE ck1 h0 h
      have hra : ((w2).alloc (.cells #[.int .i64 0, .int .i64 0, .int .i64 0] 43)).heap[w.heap.size + 1]? = some (.cells #[.int .i64 0, .int .i64 0, .int .i64 0] 43 (0, 0)) :=
        ((((Below.refl W0.heap.size W0).trans hB2').alloc (by have := hB2'.size; omega) _).block (w.heap.size + 1) (by have := HS.out; omega)).trans HR.out
      obtain ⟨⟨r0, r1, r2⟩, f0, f1, f2⟩ := cells3 hra
      have HF : Hid (Below w.heap.size w ((w2).alloc (.cells #[.int .i64 0, .int .i64 0, .int .i64 0] 43))) := (HB0.out.trans (hB2'.mono HB0.out.size)).alloc (by have := HB0.out.size; have := hB2'.size; omega) _
      have HR2 : Hid (((w2).alloc (.cells #[.int .i64 0, .int .i64 0, .int .i64 0] 43)).heap[w.heap.size + 1]? = some (.cells #[.int .i64 0, .int .i64 0, .int .i64 0] 43 (0, 0))) := hra
      clear hra
      go_wp2
      refine bodyPost_ret (results_45 rfl _ _ (w.heap.size + 1) rfl (set3 HR2.out _ _ _)) rfl ?_
      exact ⟨by simp, belset3 HF.out (by omega) _ _ _⟩
  · rw [if_neg he] at hE
    have hEn : ¬ E = 0 := by omega
    have hke : ((E : Int) == 0) = false := by simp; omega
    have hke2 : ((E : Int) != 0) = true := by simp; omega
    go_enter Try.func130, Try.ntmps130
    go_wp2_with fail
    rw [HW0.out]
    refine (rrDone_any h0).mono ?_
    rintro r w1 ⟨rfl, hB1⟩
    rw [← hE]
    clear hE ck1 h0 h
    have hra : ((w1).alloc (.cells #[.int .i64 0, .int .i64 0, .int .i64 0] 43)).heap[w.heap.size + 1]? = some (.cells #[.int .i64 0, .int .i64 0, .int .i64 0] 43 (0, 0)) :=
      ((((Below.refl W0.heap.size W0).trans hB1).alloc (by have := hB1.size; omega) _).block (w.heap.size + 1) (by have := HS.out; omega)).trans HR.out
    obtain ⟨⟨r0, r1, r2⟩, f0, f1, f2⟩ := cells3 hra
    have HF : Hid (Below w.heap.size w ((w1).alloc (.cells #[.int .i64 0, .int .i64 0, .int .i64 0] 43))) := (HB0.out.trans (hB1.mono HB0.out.size)).alloc (by have := HB0.out.size; have := hB1.size; omega) _
    have HR2 : Hid (((w1).alloc (.cells #[.int .i64 0, .int .i64 0, .int .i64 0] 43)).heap[w.heap.size + 1]? = some (.cells #[.int .i64 0, .int .i64 0, .int .i64 0] 43 (0, 0))) := hra
    clear hra
    go_wp2
    refine bodyPost_ret (results_45 rfl _ _ (w.heap.size + 1) rfl (set3 HR2.out _ _ _)) rfl ?_
    exact ⟨by simp, belset3 HF.out (by omega) _ _ _⟩

set_option maxRecDepth 100000 in
set_option maxHeartbeats 2000000 in
theorem wholeSnap_any {w0 : World} (i t : Int) (m : List UInt8) (a : Option Addr) (cap : Nat) (R : Nat) (l : List UInt8) (p e : Nat) (w : World) (h : Rr w0 w R l p e) (E : Nat) (hE : E = if doneE l p e = 0 then ckSnap i t m.length else doneE l p e) :
    Calls Try.prog 141 #[.pointer (some ⟨R, 0, none⟩), .iface 145 (.agg #[]), .agg #[.int .i64 i, .int .i64 t, .slice a m.length cap]] w fun r w' =>
      r = .returned (.tuple #[if E = 0 then .agg #[.int .i64 i, .int .i64 t, .slice a m.length cap] else .agg #[.int .i64 0, .int .i64 0, .slice none 0 0], .int .i64 (E : Int)]) ∧ Below w.heap.size w w' := by
  obtain ⟨W0, hW0⟩ : ∃ W0, (w.alloc (.cells #[.int .i64 i, .int .i64 t, .slice a m.length cap] 47)).alloc (.cells #[.int .i64 0, .int .i64 0, .slice none 0 0] 47) = W0 := ⟨_, rfl⟩
  have HW0 : Hid ((w.alloc (.cells #[.int .i64 i, .int .i64 t, .slice a m.length cap] 47)).alloc (.cells #[.int .i64 0, .int .i64 0, .slice none 0 0] 47) = W0) := hW0
  have HB0 : Hid (Below w.heap.size w W0) := by show Below w.heap.size w W0; rw [← hW0]; exact (((Below.refl _ w).alloc (by simp) _).alloc (by simp) _)
  have HS : Hid (W0.heap.size = w.heap.size + 2) := by show W0.heap.size = _; rw [← hW0]; simp
  have HX : Hid (W0.heap[w.heap.size]? = some (.cells #[.int .i64 i, .int .i64 t, .slice a m.length cap] 47 (0, 0))) := by
    show W0.heap[w.heap.size]? = _
    rw [← hW0]; exact (((Below.refl (w.heap.size + 1) (w.alloc _)).alloc (by simp) _).block _ (by simp)).trans (World.alloc_heap_new w _)
  have HR : Hid (W0.heap[w.heap.size + 1]? = some (.cells #[.int .i64 0, .int .i64 0, .slice none 0 0] 47 (0, 0))) := by
    show W0.heap[w.heap.size + 1]? = _
    rw [← hW0]; simpa using World.alloc_heap_new (w.alloc (.cells #[.int .i64 i, .int .i64 t, .slice a m.length cap] 47)) _
  have h0 : Rr w0 W0 R l p e := h.mono HB0.out
  have ck1 := fun w' => ckSnap_any i t a m.length cap w'
  clear hW0
  by_cases he : doneE l p e = 0
  · rw [if_pos he] at hE
    go_enter Try.func141, Try.ntmps141
    go_wp2_with fail
    rw [HW0.out]
    refine (rrDone_any h0).mono ?_
    rintro r w1 ⟨rfl, hB1⟩
    rw [he]
    obtain ⟨⟨q0, q1, q2⟩, -⟩ := cells3 ((hB1.block w.heap.size (by have := HS.out; omega)).trans HX.out)
    rw [← hE] at ck1
    go_wp2_with fail
    refine (ck1 w1).mono ?_
    rintro r w2 ⟨rfl, hB2⟩
    have hB2' : Below W0.heap.size W0 w2 := hB1.trans (hB2.mono hB1.size)
    by_cases hEn : E = 0
    · clear hE
      subst hEn
      have hr2 := (hB2'.block (w.heap.size + 1) (by have := HS.out; omega)).trans HR.out
      obtain ⟨⟨q0, q1, q2⟩, -⟩ := cells3 ((hB2'.block w.heap.size (by have := HS.out; omega)).trans HX.out)
      obtain ⟨⟨r0, r1, r2⟩, f0, f1, f2⟩ := cells3 hr2
      have HF : Hid (Below w.heap.size w w2) := HB0.out.trans (hB2'.mono HB0.out.size)
      have HR2 : Hid (w2.heap[w.heap.size + 1]? = some (.cells #[.int .i64 0, .int .i64 0, .slice none 0 0] 47 (0, 0))) := hr2
      clear hr2 hB2 hB2' hB1 h0 h ck1
      go_wp2
      refine bodyPost_ret (results_57 rfl _ _ (w.heap.size + 1) rfl (set3 HR2.out _ _ _)) rfl ?_
      exact ⟨by simp, belset3 HF.out (by omega) _ _ _⟩
    · have hke : ((E : Int) != 0) = true := by simp; omega
      clear hE ck1 h0 h
      have hra : ((w2).alloc (.cells #[.int .i64 0, .int .i64 0, .slice none 0 0] 47)).heap[w.heap.size + 1]? = some (.cells #[.int .i64 0, .int .i64 0, .slice none 0 0] 47 (0, 0)) :=
        ((((Below.refl W0.heap.size W0).trans hB2').alloc (by have := hB2'.size; omega) _).block (w.heap.size + 1) (by have := HS.out; omega)).trans HR.out
      obtain ⟨⟨r0, r1, r2⟩, f0, f1, f2⟩ := cells3 hra
      have HF : Hid (Below w.heap.size w ((w2).alloc (.cells #[.int .i64 0, .int .i64 0, .slice none 0 0] 47))) := (HB0.out.trans (hB2'.mono HB0.out.size)).alloc (by have := HB0.out.size; have := hB2'.size; omega) _
      have HR2 : Hid (((w2).alloc (.cells #[.int .i64 0, .int .i64 0, .slice none 0 0] 47)).heap[w.heap.size + 1]? = some (.cells #[.int .i64 0, .int .i64 0, .slice none 0 0] 47 (0, 0))) := hra
      clear hra
      go_wp2
      refine bodyPost_ret (results_57 rfl _ _ (w.heap.size + 1) rfl (set3 HR2.out _ _ _)) rfl ?_
      exact ⟨by simp, belset3 HF.out (by omega) _ _ _⟩
  · rw [if_neg he] at hE
    have hEn : ¬ E = 0 := by omega
    have hke : ((E : Int) == 0) = false := by simp; omega
    have hke2 : ((E : Int) != 0) = true := by simp; omega
    go_enter Try.func141, Try.ntmps141
    go_wp2_with fail
    rw [HW0.out]
    refine (rrDone_any h0).mono ?_
    rintro r w1 ⟨rfl, hB1⟩
    rw [← hE]
    clear hE ck1 h0 h
    have hra : ((w1).alloc (.cells #[.int .i64 0, .int .i64 0, .slice none 0 0] 47)).heap[w.heap.size + 1]? = some (.cells #[.int .i64 0, .int .i64 0, .slice none 0 0] 47 (0, 0)) :=
      ((((Below.refl W0.heap.size W0).trans hB1).alloc (by have := hB1.size; omega) _).block (w.heap.size + 1) (by have := HS.out; omega)).trans HR.out
    obtain ⟨⟨r0, r1, r2⟩, f0, f1, f2⟩ := cells3 hra
    have HF : Hid (Below w.heap.size w ((w1).alloc (.cells #[.int .i64 0, .int .i64 0, .slice none 0 0] 47))) := (HB0.out.trans (hB1.mono HB0.out.size)).alloc (by have := HB0.out.size; have := hB1.size; omega) _
    have HR2 : Hid (((w1).alloc (.cells #[.int .i64 0, .int .i64 0, .slice none 0 0] 47)).heap[w.heap.size + 1]? = some (.cells #[.int .i64 0, .int .i64 0, .slice none 0 0] 47 (0, 0))) := hra
    clear hra
    go_wp2
    refine bodyPost_ret (results_57 rfl _ _ (w.heap.size + 1) rfl (set3 HR2.out _ _ _)) rfl ?_
    exact ⟨by simp, belset3 HF.out (by omega) _ _ _⟩

set_option maxRecDepth 100000 in
set_option maxHeartbeats 2000000 in
theorem wholeEntry_any {w0 : World} (t i k : Int) (m : List UInt8) (a : Option Addr) (cap : Nat) (R : Nat) (l : List UInt8) (p e : Nat) (w : World) (h : Rr w0 w R l p e) (E : Nat) (hE : E = if doneE l p e = 0 then ckEntry t i k m.length else doneE l p e) :
    Calls Try.prog 128 #[.pointer (some ⟨R, 0, none⟩), .iface 31 (.agg #[]), .agg #[.int .i64 t, .int .i64 i, .int .i64 k, .slice a m.length cap]] w fun r w' =>
      r = .returned (.tuple #[if E = 0 then .agg #[.int .i64 t, .int .i64 i, .int .i64 k, .slice a m.length cap] else .agg #[.int .i64 0, .int .i64 0, .int .i64 0, .slice none 0 0], .int .i64 (E : Int)]) ∧ Below w.heap.size w w' := by
  obtain ⟨W0, hW0⟩ : ∃ W0, (w.alloc (.cells #[.int .i64 t, .int .i64 i, .int .i64 k, .slice a m.length cap] 26)).alloc (.cells #[.int .i64 0, .int .i64 0, .int .i64 0, .slice none 0 0] 26) = W0 := ⟨_, rfl⟩
  have HW0 : Hid ((w.alloc (.cells #[.int .i64 t, .int .i64 i, .int .i64 k, .slice a m.length cap] 26)).alloc (.cells #[.int .i64 0, .int .i64 0, .int .i64 0, .slice none 0 0] 26) = W0) := hW0
  have HB0 : Hid (Below w.heap.size w W0) := by show Below w.heap.size w W0; rw [← hW0]; exact (((Below.refl _ w).alloc (by simp) _).alloc (by simp) _)
  have HS : Hid (W0.heap.size = w.heap.size + 2) := by show W0.heap.size = _; rw [← hW0]; simp
  have HX : Hid (W0.heap[w.heap.size]? = some (.cells #[.int .i64 t, .int .i64 i, .int .i64 k, .slice a m.length cap] 26 (0, 0))) := by
    show W0.heap[w.heap.size]? = _
    rw [← hW0]; exact (((Below.refl (w.heap.size + 1) (w.alloc _)).alloc (by simp) _).block _ (by simp)).trans (World.alloc_heap_new w _)
  have HR : Hid (W0.heap[w.heap.size + 1]? = some (.cells #[.int .i64 0, .int .i64 0, .int .i64 0, .slice none 0 0] 26 (0, 0))) := by
    show W0.heap[w.heap.size + 1]? = _
    rw [← hW0]; simpa using World.alloc_heap_new (w.alloc (.cells #[.int .i64 t, .int .i64 i, .int .i64 k, .slice a m.length cap] 26)) _
  have h0 : Rr w0 W0 R l p e := h.mono HB0.out
  have ck1 := fun w' => ckEntry_any t i k a m.length cap w'
  clear hW0
  by_cases he : doneE l p e = 0
  · rw [if_pos he] at hE
    go_enter Try.func128, Try.ntmps128
    go_wp2_with fail
    rw [HW0.out]
    refine (rrDone_any h0).mono ?_
    rintro r w1 ⟨rfl, hB1⟩
    rw [he]
    obtain ⟨⟨q0, q1, q2, q3⟩, -⟩ := cells4 ((hB1.block w.heap.size (by have := HS.out; omega)).trans HX.out)
    rw [← hE] at ck1
    go_wp2_with fail
    refine (ck1 w1).mono ?_
    rintro r w2 ⟨rfl, hB2⟩
    have hB2' : Below W0.heap.size W0 w2 := hB1.trans (hB2.mono hB1.size)
    by_cases hEn : E = 0
    · clear hE
      subst hEn
      have hr2 := (hB2'.block (w.heap.size + 1) (by have := HS.out; omega)).trans HR.out
      obtain ⟨⟨q0, q1, q2, q3⟩, -⟩ := cells4 ((hB2'.block w.heap.size (by have := HS.out; omega)).trans HX.out)
      obtain ⟨⟨r0, r1, r2, r3⟩, f0, f1, f2, f3⟩ := cells4 hr2
      have HF : Hid (Below w.heap.size w w2) := HB0.out.trans (hB2'.mono HB0.out.size)
      have HR2 : Hid (w2.heap[w.heap.size + 1]? = some (.cells #[.int .i64 0, .int .i64 0, .int .i64 0, .slice none 0 0] 26 (0, 0))) := hr2
      clear hr2 hB2 hB2' hB1 h0 h ck1
      go_wp2
      refine bodyPost_ret (results_24 rfl _ _ (w.heap.size + 1) rfl (set4 HR2.out _ _ _ _)) rfl ?_
      exact ⟨by simp, belset4 HF.out (by omega) _ _ _ _⟩
    · have hke : ((E : Int) != 0) = true := by simp; omega
      clear hE ck1 h0 h
      have hra : ((w2).alloc (.cells #[.int .i64 0, .int .i64 0, .int .i64 0, .slice none 0 0] 26)).heap[w.heap.size + 1]? = some (.cells #[.int .i64 0, .int .i64 0, .int .i64 0, .slice none 0 0] 26 (0, 0)) :=
        ((((Below.refl W0.heap.size W0).trans hB2').alloc (by have := hB2'.size; omega) _).block (w.heap.size + 1) (by have := HS.out; omega)).trans HR.out
      obtain ⟨⟨r0, r1, r2, r3⟩, f0, f1, f2, f3⟩ := cells4 hra
      have HF : Hid (Below w.heap.size w ((w2).alloc (.cells #[.int .i64 0, .int .i64 0, .int .i64 0, .slice none 0 0] 26))) := (HB0.out.trans (hB2'.mono HB0.out.size)).alloc (by have := HB0.out.size; have := hB2'.size; omega) _
      have HR2 : Hid (((w2).alloc (.cells #[.int .i64 0, .int .i64 0, .int .i64 0, .slice none 0 0] 26)).heap[w.heap.size + 1]? = some (.cells #[.int .i64 0, .int .i64 0, .int .i64 0, .slice none 0 0] 26 (0, 0))) := hra
      clear hra
      go_wp2
      refine bodyPost_ret (results_24 rfl _ _ (w.heap.size + 1) rfl (set4 HR2.out _ _ _ _)) rfl ?_
      exact ⟨by simp, belset4 HF.out (by omega) _ _ _ _⟩
  · rw [if_neg he] at hE
    have hEn : ¬ E = 0 := by omega
    have hke : ((E : Int) == 0) = false := by simp; omega
    have hke2 : ((E : Int) != 0) = true := by simp; omega
    go_enter Try.func128, Try.ntmps128
    go_wp2_with fail
    rw [HW0.out]
    refine (rrDone_any h0).mono ?_
    rintro r w1 ⟨rfl, hB1⟩
    rw [← hE]
    clear hE ck1 h0 h
    have hra : ((w1).alloc (.cells #[.int .i64 0, .int .i64 0, .int .i64 0, .slice none 0 0] 26)).heap[w.heap.size + 1]? = some (.cells #[.int .i64 0, .int .i64 0, .int .i64 0, .slice none 0 0] 26 (0, 0)) :=
      ((((Below.refl W0.heap.size W0).trans hB1).alloc (by have := hB1.size; omega) _).block (w.heap.size + 1) (by have := HS.out; omega)).trans HR.out
    obtain ⟨⟨r0, r1, r2, r3⟩, f0, f1, f2, f3⟩ := cells4 hra
    have HF : Hid (Below w.heap.size w ((w1).alloc (.cells #[.int .i64 0, .int .i64 0, .int .i64 0, .slice none 0 0] 26))) := (HB0.out.trans (hB1.mono HB0.out.size)).alloc (by have := HB0.out.size; have := hB1.size; omega) _
    have HR2 : Hid (((w1).alloc (.cells #[.int .i64 0, .int .i64 0, .int .i64 0, .slice none 0 0] 26)).heap[w.heap.size + 1]? = some (.cells #[.int .i64 0, .int .i64 0, .int .i64 0, .slice none 0 0] 26 (0, 0))) := hra
    clear hra
    go_wp2
    refine bodyPost_ret (results_24 rfl _ _ (w.heap.size + 1) rfl (set4 HR2.out _ _ _ _)) rfl ?_
    exact ⟨by simp, belset4 HF.out (by omega) _ _ _ _⟩

end Go.Proofs.Ytfnnbfgfmbiabab
