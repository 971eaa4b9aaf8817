/-
  The document's disk: take.
-/
import Derived.Test.YtbjnhohfdpdcnaaRd9
import Derived.Handy
namespace Go.Proofs.Ytbjnhohfdpdcnaa
open Go.RowKit Go.Shelf
set_option linter.unusedVariables false

def remF (fs : List Fl) (j : Nat) : List Fl := fs.take j ++ fs.drop (j + 1)
theorem take_done {w w2 wf : World} {B : Nat} {p : PD} {v v2 : Value} {fs : List Fl} {l : List UInt8} {j : Nat} (h : RD 0 w B p v fs l) (hj : j < fs.length) (hB2 : Below w.heap.size w w2) (hown2 : w2.ownsRow (w.heap.size + 2) 37 3 v2 (j + (fs.length - (j + 1))) (cellsOf (fs.take j) ++ cellsOf (fs.drop (j + 1)))) (hF : Out (· = w.heap.size) (w2.setCell ⟨B, 0, none⟩ v2) wf) :
    wf.heap[B]? = some (.cells #[v2, .int .i64 (p.arm : Int), .bool p.dn, .string ⟨l.toArray⟩] 30 (0, 0)) ∧ FilesIn 0 wf v2 (remF fs j) ∧ Out (· = B) w wf ∧ ∀ g, v2.ownBlock = some g → w.heap.size ≤ g := by
  have hBlt := h.lt
  have hR2 := (hB2.block B hBlt).trans h.hd
  have hset : Out (· = B) w2 (w2.setCell ⟨B, 0, none⟩ v2) := Out.set rfl
  have hfe : Out (· = B) w wf := ((Out.of_below hB2).trans hset (fun i hi _ => hi)).trans hF (fun i hi hlt => by subst hi; exact absurd hlt (by omega))
  have hsz : B < (w2.setCell ⟨B, 0, none⟩ v2).heap.size := by rw [size_set]; have := hB2.size; omega
  refine ⟨(hF.block B hsz (by omega)).trans (by simpa using heap_set hR2 0 v2), ⟨?_, fun f hf => ?_⟩, hfe, fun g hg => by have := (hown2.lt g hg).1; omega⟩
  · have hlen : (remF fs j).length = j + (fs.length - (j + 1)) := by simp [remF]; omega
    rw [hlen]
    have h1 := row_out hown2 hset (fun g hg e => by have := (hown2.lt g hg).1; omega)
    have h2 := row_base (row_out h1 hF (fun g hg e => by have := (hown2.lt g hg).1; omega)) (Nat.zero_le _)
    unfold remF
    rw [cellsOf_append]
    exact h2
  · have hm : f ∈ fs := by
      rcases List.mem_append.1 hf with hf | hf
      · exact List.mem_of_mem_take hf
      · exact List.mem_of_mem_drop hf
    have h1 := h.fi.own f hm
    exact h1.out hfe (fun g hg e => h1.not_at h.hd (by decide) (by rw [hg, e]))
theorem set3 {w : World} {B : Nat} {x0 x1 x2 : Value} {t : TypeId} (h : w.heap[B]? = some (.cells #[x0, x1, x2] t (0, 0))) (y0 y1 y2 : Value) :
    (((w.setCell ⟨B, 0, none⟩ y0).setCell ⟨B, 1, none⟩ y1).setCell ⟨B, 2, none⟩ y2).heap[B]? = some (.cells #[y0, y1, y2] t (0, 0)) := by
  rw [heap_set (heap_set (heap_set h 0 y0) 1 y1) 2 y2]; rfl
theorem results_37 {fn : Func} {t : Tmp} (h : fn.results = #[.cell t 37]) (tmps : Array Value) (w : World) (B : Nat) {x0 x1 x2 : Value} (ht : tmps.getD t undef = .pointer (some ⟨B, 0, none⟩)) (hb : w.heap[B]? = some (.cells #[x0, x1, x2] 37 (0, 0))) :
    (results fn tmps).run Try.prog w = .ok (.agg #[x0, x1, x2]) w := by
  have c0 : w.cell? ⟨B, 0, none⟩ = some x0 := by simp [World.cell?, hb]
  have c1 : w.cell? ⟨B, 1, none⟩ = some x1 := by simp [World.cell?, hb]
  have c2 : w.cell? ⟨B, 2, none⟩ = some x2 := by simp [World.cell?, hb]
  have ht' : tmps[t]?.getD undef = .pointer (some ⟨B, 0, none⟩) := by rw [← Array.getD_eq_getD_getElem?]; exact ht
  simp [results, h, ht', asAddr, loadVar, c0, c1, c2, go_sem]

set_option maxRecDepth 100000 in
set_option maxHeartbeats 8000000 in
theorem refTake {w : World} {B : Nat} {p : PD} {v : Value} {fs : List Fl} {l : List UInt8} (h : RD 0 w B p v fs l) {j : Nat} (hj : j < fs.length) (f : Fl) (hf : fs.getD j nilFl = f) :
    Calls Try.prog 60 #[.pointer (some ⟨B, 0, none⟩), .int .i64 (j : Int)] w fun r w' => r = .returned (.agg #[.string ⟨f.nm.toArray⟩, .slice f.a f.dat.length f.c, .int .i64 f.syn]) ∧ ∃ v', w'.heap[B]? = some (.cells #[v', .int .i64 (p.arm : Int), .bool p.dn, .string ⟨l.toArray⟩] 30 (0, 0)) ∧ FilesIn 0 w' v' (remF fs j) ∧ Out (· = B) w w' ∧ ∀ g, v'.ownBlock = some g → w.heap.size ≤ g := by
  obtain ⟨g, cap, hv, hc1, hc2, hgB, hat2, hfz, ⟨cs, hcs⟩⟩ := h.at hj
  subst hv
  have hBlt := h.lt
  have hglt : g < w.heap.size := (Array.getElem?_eq_some_iff.1 hcs).1
  have HH : Hid (RD 0 w B p (.slice (some ⟨g, 0, none⟩) fs.length cap) fs l) := h
  rw [hf] at hat2
  obtain ⟨c0, c1, c2, csl⟩ := hat2
  unfold Fl.x at c1 csl
  obtain ⟨m0, m1, m2, m3, n0, -⟩ := h.cells
  have hi0 : (0 : Int) ≤ (j : Int) := by omega
  have hi1 : (j : Int) < (fs.length : Int) := by omega
  have hfw := h.fw
  have hcm : cap ≤ 9223372036854775807 := by unfold maxLen at hc2; exact hc2
  have j1 : (j : Int) ≤ (cap : Int) := by omega
  have j2 : (j : Int) ≤ (fs.length : Int) := by omega
  have j3 : (fs.length : Int) ≤ (cap : Int) := by omega
  have j4 : j ≤ cap := by omega
  have j5 : IntKind.i64.wrap ((j : Int) + 1) = (j : Int) + 1 := by rw [IntKind.wrap_i64]; omega
  have j6 : (j : Int) + 1 ≤ (fs.length : Int) := by omega
  have j7 : (0 : Int) ≤ (j : Int) + 1 := by omega
  have j8 : ((j : Int) + 1).toNat = j + 1 := by omega
  have hB0 : Below w.heap.size w ((w.alloc (.cells #[.string ⟨#[]⟩, .slice none 0 0, .int .i64 0] 37)).alloc (.cells #[.string ⟨f.nm.toArray⟩, .slice f.a f.dat.length f.c, .int .i64 f.syn] 37)) := ((Below.refl _ w).alloc (Nat.le_refl _) _).alloc (by simp) _
  have hS0 : ((w.alloc (.cells #[.string ⟨#[]⟩, .slice none 0 0, .int .i64 0] 37)).alloc (.cells #[.string ⟨f.nm.toArray⟩, .slice f.a f.dat.length f.c, .int .i64 f.syn] 37)).heap.size = w.heap.size + 2 := by simp
  have hB1 : Below w.heap.size w (((w.alloc (.cells #[.string ⟨#[]⟩, .slice none 0 0, .int .i64 0] 37)).alloc (.cells #[.string ⟨f.nm.toArray⟩, .slice f.a f.dat.length f.c, .int .i64 f.syn] 37)).alloc (.cells #[] 37)) := hB0.alloc (by rw [hS0]; omega) _
  have HS0 : Hid (((w.alloc (.cells #[.string ⟨#[]⟩, .slice none 0 0, .int .i64 0] 37)).alloc (.cells #[.string ⟨f.nm.toArray⟩, .slice f.a f.dat.length f.c, .int .i64 f.syn] 37)).heap.size = w.heap.size + 2) := hS0
  have HB0 : Hid (Below w.heap.size w ((w.alloc (.cells #[.string ⟨#[]⟩, .slice none 0 0, .int .i64 0] 37)).alloc (.cells #[.string ⟨f.nm.toArray⟩, .slice f.a f.dat.length f.c, .int .i64 f.syn] 37))) := hB0
  have HBC : Hid (∀ w', Below w.heap.size w w' → w'.cell? ⟨B, 0, none⟩ = some (.slice (some ⟨g, 0, none⟩) fs.length cap) ∧ w'.frozen? ⟨B, 0, none⟩ = false) := fun w' hB => by
    have hR := (hB.block B hBlt).trans HH.out.hd
    exact ⟨by simp [World.cell?, hR], by simp [World.frozen?, hR]⟩
  have HFC : Hid (∀ w', Below (w.heap.size + 2) ((w.alloc (.cells #[.string ⟨#[]⟩, .slice none 0 0, .int .i64 0] 37)).alloc (.cells #[.string ⟨f.nm.toArray⟩, .slice f.a f.dat.length f.c, .int .i64 f.syn] 37)) w' → w'.cell? ⟨w.heap.size + 1, 0, none⟩ = some (.string ⟨f.nm.toArray⟩) ∧ w'.cell? ⟨w.heap.size + 1, 1, none⟩ = some (.slice f.a f.dat.length f.c) ∧ w'.cell? ⟨w.heap.size + 1, 2, none⟩ = some (.int .i64 f.syn) ∧ w'.cell? ⟨w.heap.size, 0, none⟩ = some (.string ⟨#[]⟩) ∧ w'.cell? ⟨w.heap.size, 1, none⟩ = some (.slice none 0 0) ∧ w'.cell? ⟨w.heap.size, 2, none⟩ = some (.int .i64 0) ∧ w'.frozen? ⟨w.heap.size, 0, none⟩ = false ∧ w'.frozen? ⟨w.heap.size, 1, none⟩ = false ∧ w'.frozen? ⟨w.heap.size, 2, none⟩ = false ∧ Hid (w'.heap[w.heap.size]? = some (.cells #[.string ⟨#[]⟩, .slice none 0 0, .int .i64 0] 37 (0, 0)))) := fun w' hB => by
    have e1 : ((w.alloc (.cells #[.string ⟨#[]⟩, .slice none 0 0, .int .i64 0] 37)).alloc (.cells #[.string ⟨f.nm.toArray⟩, .slice f.a f.dat.length f.c, .int .i64 f.syn] 37)).heap[w.heap.size + 1]? = some (.cells #[.string ⟨f.nm.toArray⟩, .slice f.a f.dat.length f.c, .int .i64 f.syn] 37 (0, 0)) := by have := heap_alloc_new (w.alloc (.cells #[.string ⟨#[]⟩, .slice none 0 0, .int .i64 0] 37)) (.cells #[.string ⟨f.nm.toArray⟩, .slice f.a f.dat.length f.c, .int .i64 f.syn] 37); simpa using this
    have e2 : ((w.alloc (.cells #[.string ⟨#[]⟩, .slice none 0 0, .int .i64 0] 37)).alloc (.cells #[.string ⟨f.nm.toArray⟩, .slice f.a f.dat.length f.c, .int .i64 f.syn] 37)).heap[w.heap.size]? = some (.cells #[.string ⟨#[]⟩, .slice none 0 0, .int .i64 0] 37 (0, 0)) := by
      have h1 := heap_alloc_new w (.cells #[.string ⟨#[]⟩, .slice none 0 0, .int .i64 0] 37)
      have h2 := ((Below.refl (w.heap.size + 1) (w.alloc (.cells #[.string ⟨#[]⟩, .slice none 0 0, .int .i64 0] 37))).alloc (by simp) (.cells #[.string ⟨f.nm.toArray⟩, .slice f.a f.dat.length f.c, .int .i64 f.syn] 37)).block w.heap.size (by omega)
      exact h2.trans h1
    have r1 := (hB.block (w.heap.size + 1) (by omega)).trans e1
    have r2 := (hB.block w.heap.size (by omega)).trans e2
    exact ⟨by simp [World.cell?, r1], by simp [World.cell?, r1], by simp [World.cell?, r1], by simp [World.cell?, r2], by simp [World.cell?, r2], by simp [World.cell?, r2], by simp [World.frozen?, r2], by simp [World.frozen?, r2], by simp [World.frozen?, r2], r2⟩
  have HFA : Hid (∀ w', Below w.heap.size w w' → FlsAt w.heap.size w' (some ⟨g, 0, none⟩) fs) := fun w' hB => by
    obtain ⟨a', c', hv', -, -, hF'⟩ := HH.out.fi.at
    cases hv'
    exact hF'.below hB
  have HST : Hid (∀ w', Below w.heap.size w w' → ∀ i u, (cellsOf (fs.take j))[i]? = some u → w'.cell? ⟨g, 0 + i, none⟩ = some u) := fun w' hB i u hu => by
    rcases HFA.out w' hB with hz | ⟨b, off, e, hb, hc⟩
    · subst hz; simp at hj
    · cases e
      exact FlsAt.cellsAt (N := w.heap.size) (fs := fs.take j) (fun i hi => by rw [getD_take (by simp at hi; omega)]; exact hc i (by simp at hi; omega)) i u hu
  have HSR : Hid (∀ w', Below w.heap.size w w' → ∀ i u, (cellsOf (fs.drop (j + 1)))[i]? = some u → w'.cell? ⟨g, (j + 1) * 3 + i, none⟩ = some u) := fun w' hB i u hu => by
    rcases HFA.out w' hB with hz | ⟨b, off, e, hb, hc⟩
    · subst hz; simp at hj
    · cases e
      exact FlsAt.cellsAt (N := w.heap.size) (fs := fs.drop (j + 1)) (fun i hi => by rw [getD_drop]; have := hc (j + 1 + i) (by simp at hi; omega); rw [show (j + 1) * 3 + i * 3 = 0 + (j + 1 + i) * 3 by omega]; exact this) i u hu
  obtain ⟨i0, hi, hz0, hz1, hz2⟩ := info_parts info37
  have x0 := (HBC.out _ hB1).1
  have hown0 : (((w.alloc (.cells #[.string ⟨#[]⟩, .slice none 0 0, .int .i64 0] 37)).alloc (.cells #[.string ⟨f.nm.toArray⟩, .slice f.a f.dat.length f.c, .int .i64 f.syn] 37)).alloc (.cells #[] 37)).ownsRow (w.heap.size + 2) 37 3 (.slice (some ⟨w.heap.size + 1 + 1, 0, none⟩) 0 0) 0 [] := by
    have hn := heap_alloc_new ((w.alloc (.cells #[.string ⟨#[]⟩, .slice none 0 0, .int .i64 0] 37)).alloc (.cells #[.string ⟨f.nm.toArray⟩, .slice f.a f.dat.length f.c, .int .i64 f.syn] 37)) (.cells #[] 37)
    rw [hS0] at hn
    exact ⟨rfl, .inr ⟨w.heap.size + 2, 0, #[], rfl, by omega, hn, Nat.le_refl _, by unfold maxLen; omega, rfl, rfl⟩⟩
  have hsrc := HST.out _ hB1
  have HJ : Hid (j < fs.length) := hj
  have hne1 : ¬ (w.heap.size + 1 = B) := by omega
  have hne2 : ¬ (w.heap.size = B) := by omega
  have HGR : Hid (∀ w1, (((w.alloc (.cells #[.string ⟨#[]⟩, .slice none 0 0, .int .i64 0] 37)).alloc (.cells #[.string ⟨f.nm.toArray⟩, .slice f.a f.dat.length f.c, .int .i64 f.syn] 37)).alloc (.cells #[] 37)).grownBy w1 (some (w.heap.size + 2)) → Below (w.heap.size + 2) ((w.alloc (.cells #[.string ⟨#[]⟩, .slice none 0 0, .int .i64 0] 37)).alloc (.cells #[.string ⟨f.nm.toArray⟩, .slice f.a f.dat.length f.c, .int .i64 f.syn] 37)) w1 ∧ Below w.heap.size w w1) := fun w1 hg1 => by
    have h1 : Below (w.heap.size + 2) ((w.alloc (.cells #[.string ⟨#[]⟩, .slice none 0 0, .int .i64 0] 37)).alloc (.cells #[.string ⟨f.nm.toArray⟩, .slice f.a f.dat.length f.c, .int .i64 f.syn] 37)) (((w.alloc (.cells #[.string ⟨#[]⟩, .slice none 0 0, .int .i64 0] 37)).alloc (.cells #[.string ⟨f.nm.toArray⟩, .slice f.a f.dat.length f.c, .int .i64 f.syn] 37)).alloc (.cells #[] 37)) := (Below.refl _ ((w.alloc (.cells #[.string ⟨#[]⟩, .slice none 0 0, .int .i64 0] 37)).alloc (.cells #[.string ⟨f.nm.toArray⟩, .slice f.a f.dat.length f.c, .int .i64 f.syn] 37))).alloc (by simp) _
    have h2 := h1.grown hg1 (by simp) (fun k e => by cases e; exact Nat.le_refl _)
    exact ⟨h2, HB0.out.trans (h2.mono (by omega))⟩
  clear hcs hf h hB0 hS0
  have hlt := HJ.out
  by_cases hend : j + 1 = cap
  · have q0 : fs.length = j + 1 := by omega
    have HL : Hid (fs.length - (j + 1) = 0 ∧ fs.drop (j + 1) = []) := ⟨by omega, List.drop_eq_nil_of_le (by omega)⟩
    have q1 : cap - (j + 1) = 0 := by omega
    have q2 : cap ≤ j + 1 := by omega
    have q4 : j + 1 ≤ cap := by omega
    have q5 : (j : Int) + 1 ≤ (cap : Int) := by omega
    have q6 : fs.length - (j + 1) = 0 := by omega
    clear q0 hend
    go_enter Try.func60, Try.ntmps60
    go_wp2_with (first
      | (at_builtin; refine wpList_append_own _ rfl _ _ 28 rfl (w.heap.size + 2) 37 i0 _ 3 48 Try.underlying28 hi hz0 hz1 hz2 rfl (by decide) _ 0 [] rfl hown0 ⟨g, 0, none⟩ j cap (cellsOf (fs.take j)) rfl (by rw [cellsOf_len]; simp; omega) (fun i u hu => by rw [Addr.add_lit]; exact hsrc i u hu) cellsOf_one (by unfold maxLen; omega) (by omega) (by simp) ?_; intro v1 w1 hown1 hg1 _; obtain ⟨hb1, hb1'⟩ := HGR.out w1 hg1; have y0 := (HBC.out w1 hb1').1; rw [Nat.zero_add, List.nil_append] at hown1; obtain ⟨a1, d1, rfl⟩ := row_shape hown1)
      | (at_builtin; refine wpList_append_own _ rfl _ _ 28 rfl (w.heap.size + 2) 37 i0 _ 3 48 Try.underlying28 hi hz0 hz1 hz2 rfl (by decide) _ j _ rfl hown1 _ 0 _ [] rfl rfl (fun i u hu => by simp at hu) (by simp) (by unfold maxLen; omega) (by omega) (by have := hb1.size; have := HS0.out; omega) ?_; intro v2 w2 hown2 hg2 _; have hb2 : Below (w.heap.size + 2) ((w.alloc (.cells #[.string ⟨#[]⟩, .slice none 0 0, .int .i64 0] 37)).alloc (.cells #[.string ⟨f.nm.toArray⟩, .slice f.a f.dat.length f.c, .int .i64 f.syn] 37)) w2 := hb1.grown hg2 (by have := hb1.size; have := HS0.out; omega) (fun k e => (hown1.lt k e).1); have hb2' : Below w.heap.size w w2 := HB0.out.trans (hb2.mono (by omega)); obtain ⟨z0, z1⟩ := HBC.out w2 hb2'; obtain ⟨t0, t1, t2, t3, t4, t5, t6, t7, t8, t9⟩ := HFC.out w2 hb2; obtain ⟨a2, d2, rfl⟩ := row_shape hown2))
    (try simp only [Exit.inBlock, Exit.then])
    refine bodyPost_ret (results_37 rfl _ _ w.heap.size rfl (set3 ((Below.heap_setCell _ _ _ _ (fun e => hne2 e)).trans t9.out) _ _ _)) rfl ?_
    exact ⟨rfl, _, take_done HH.out HJ.out hb2' (by rw [HL.out.1, HL.out.2]; simpa [cellsOf] using hown2) (((Out.set (X := (· = w.heap.size)) rfl).trans (Out.set (X := (· = w.heap.size)) rfl) (fun i hi _ => hi)).trans (Out.set (X := (· = w.heap.size)) rfl) (fun i hi _ => hi))⟩
  · have q1 : ¬ (cap - (j + 1) = 0) := by omega
    have q2 : ¬ (cap ≤ j + 1) := by omega
    have q3 : j + 1 < cap := by omega
    have q4 : j + 1 ≤ cap := by omega
    have q5 : (j : Int) + 1 ≤ (cap : Int) := by omega
    go_enter Try.func60, Try.ntmps60
    go_wp2_with (first
      | (at_builtin; refine wpList_append_own _ rfl _ _ 28 rfl (w.heap.size + 2) 37 i0 _ 3 48 Try.underlying28 hi hz0 hz1 hz2 rfl (by decide) _ 0 [] rfl hown0 ⟨g, 0, none⟩ j cap (cellsOf (fs.take j)) rfl (by rw [cellsOf_len]; simp; omega) (fun i u hu => by rw [Addr.add_lit]; exact hsrc i u hu) cellsOf_one (by unfold maxLen; omega) (by omega) (by simp) ?_; intro v1 w1 hown1 hg1 _; obtain ⟨hb1, hb1'⟩ := HGR.out w1 hg1; have y0 := (HBC.out w1 hb1').1; rw [Nat.zero_add, List.nil_append] at hown1; obtain ⟨a1, d1, rfl⟩ := row_shape hown1)
      | (at_builtin; refine wpList_append_own _ rfl _ _ 28 rfl (w.heap.size + 2) 37 i0 _ 3 48 Try.underlying28 hi hz0 hz1 hz2 rfl (by decide) _ j _ rfl hown1 ⟨g, (j + 1) * 3, none⟩ (fs.length - (j + 1)) _ (cellsOf (fs.drop (j + 1))) rfl (by rw [cellsOf_len]; simp) (fun i u hu => by rw [Addr.add_lit]; exact HSR.out w1 hb1' i u hu) cellsOf_one (by unfold maxLen; omega) (by omega) (by have := hb1.size; have := HS0.out; omega) ?_; intro v2 w2 hown2 hg2 _; have hb2 : Below (w.heap.size + 2) ((w.alloc (.cells #[.string ⟨#[]⟩, .slice none 0 0, .int .i64 0] 37)).alloc (.cells #[.string ⟨f.nm.toArray⟩, .slice f.a f.dat.length f.c, .int .i64 f.syn] 37)) w2 := hb1.grown hg2 (by have := hb1.size; have := HS0.out; omega) (fun k e => (hown1.lt k e).1); have hb2' : Below w.heap.size w w2 := HB0.out.trans (hb2.mono (by omega)); obtain ⟨z0, z1⟩ := HBC.out w2 hb2'; obtain ⟨t0, t1, t2, t3, t4, t5, t6, t7, t8, t9⟩ := HFC.out w2 hb2; obtain ⟨a2, d2, rfl⟩ := row_shape hown2))
    (try simp only [Exit.inBlock, Exit.then])
    refine bodyPost_ret (results_37 rfl _ _ w.heap.size rfl (set3 ((Below.heap_setCell _ _ _ _ (fun e => hne2 e)).trans t9.out) _ _ _)) rfl ?_
    exact ⟨rfl, _, take_done HH.out HJ.out hb2' hown2 (((Out.set (X := (· = w.heap.size)) rfl).trans (Out.set (X := (· = w.heap.size)) rfl) (fun i hi _ => hi)).trans (Out.set (X := (· = w.heap.size)) rfl) (fun i hi _ => hi))⟩
end Go.Proofs.Ytbjnhohfdpdcnaa
