/-
  The document's disk: take. The document's disk: Remove. The document's disk: Rename. The document's disk: Cut. The document's disk: Crash. The program's disk and the document's, side by side.
-/
import Derived.Test.YtadajbdmlmickaaGreatDoorKrb
import Derived.Handy
namespace Go.Proofs.YtadajbdmlmickaaGreatDoor
open Go.RowKit Go.Shelf
set_option linter.unusedVariables false

def remF (fs : List Fl) (j : Nat) : List Fl := fs.take j ++ fs.drop (j + 1)
theorem take_done {w w2 wf : World} {B : Nat} {p : PD} {v v2 : Value} {fs : List Fl} {l : List UInt8} {j : Nat} (h : RD 0 w B p v fs l) (hj : j < fs.length) (hB2 : Below w.heap.size w w2) (hown2 : w2.ownsRow (w.heap.size + 2) 71 3 v2 (j + (fs.length - (j + 1))) (cellsOf (fs.take j) ++ cellsOf (fs.drop (j + 1)))) (hF : Out (· = w.heap.size) (w2.setCell ⟨B, 0, none⟩ v2) wf) :
    wf.heap[B]? = some (.cells #[v2, .int .i64 (p.arm : Int), .bool p.dn, .string ⟨l.toArray⟩] 30 (0, 0)) ∧ FilesIn 0 wf v2 (remF fs j) ∧ Out (· = B) w wf ∧ ∀ g, v2.ownBlock = some g → w.heap.size ≤ g := by
  have hBlt := h.lt
  have hR2 := (hB2.block B hBlt).trans h.hd
  have hset : Out (· = B) w2 (w2.setCell ⟨B, 0, none⟩ v2) := Out.set rfl
  have hfe : Out (· = B) w wf := ((Out.of_below hB2).trans hset (fun i hi _ => hi)).trans hF (fun i hi hlt => by subst hi; exact absurd hlt (by omega))
  have hsz : B < (w2.setCell ⟨B, 0, none⟩ v2).heap.size := by rw [size_set]; have := hB2.size; omega
  refine ⟨(hF.block B hsz (by omega)).trans (by simpa using heap_set hR2 0 v2), ⟨?_, fun f hf => ?_⟩, hfe, fun g hg => by have := (hown2.lt g hg).1; omega⟩
  · have hlen : (remF fs j).length = j + (fs.length - (j + 1)) := by simp [remF]; omega
    rw [hlen]
    have h1 := row_out hown2 hset (fun g hg e => by have := (hown2.lt g hg).1; omega)
    have h2 := row_base (row_out h1 hF (fun g hg e => by have := (hown2.lt g hg).1; omega)) (Nat.zero_le _)
    unfold remF
    rw [cellsOf_append]
    exact h2
  · have hm : f ∈ fs := by
      rcases List.mem_append.1 hf with hf | hf
      · exact List.mem_of_mem_take hf
      · exact List.mem_of_mem_drop hf
    have h1 := h.fi.own f hm
    exact h1.out hfe (fun g hg e => h1.not_at h.hd (by decide) (by rw [hg, e]))
theorem set3 {w : World} {B : Nat} {x0 x1 x2 : Value} {t : TypeId} (h : w.heap[B]? = some (.cells #[x0, x1, x2] t (0, 0))) (y0 y1 y2 : Value) :
    (((w.setCell ⟨B, 0, none⟩ y0).setCell ⟨B, 1, none⟩ y1).setCell ⟨B, 2, none⟩ y2).heap[B]? = some (.cells #[y0, y1, y2] t (0, 0)) := by
  rw [heap_set (heap_set (heap_set h 0 y0) 1 y1) 2 y2]; rfl
theorem results_37 {fn : Func} {t : Tmp} (h : fn.results = #[.cell t 71]) (tmps : Array Value) (w : World) (B : Nat) {x0 x1 x2 : Value} (ht : tmps.getD t undef = .pointer (some ⟨B, 0, none⟩)) (hb : w.heap[B]? = some (.cells #[x0, x1, x2] 71 (0, 0))) :
    (results fn tmps).run Tryz.prog w = .ok (.agg #[x0, x1, x2]) w := by
  have c0 : w.cell? ⟨B, 0, none⟩ = some x0 := by simp [World.cell?, hb]
  have c1 : w.cell? ⟨B, 1, none⟩ = some x1 := by simp [World.cell?, hb]
  have c2 : w.cell? ⟨B, 2, none⟩ = some x2 := by simp [World.cell?, hb]
  have ht' : tmps[t]?.getD undef = .pointer (some ⟨B, 0, none⟩) := by rw [← Array.getD_eq_getD_getElem?]; exact ht
  simp [results, h, ht', asAddr, loadVar, c0, c1, c2, go_sem]

set_option maxRecDepth 100000 in
set_option maxHeartbeats 8000000 in
theorem refTake {w : World} {B : Nat} {p : PD} {v : Value} {fs : List Fl} {l : List UInt8} (h : RD 0 w B p v fs l) {j : Nat} (hj : j < fs.length) (f : Fl) (hf : fs.getD j nilFl = f) :
    Calls Tryz.prog 106 #[.pointer (some ⟨B, 0, none⟩), .int .i64 (j : Int)] w fun r w' => r = .returned (.agg #[.string ⟨f.nm.toArray⟩, .slice f.a f.dat.length f.c, .int .i64 f.syn]) ∧ ∃ v', w'.heap[B]? = some (.cells #[v', .int .i64 (p.arm : Int), .bool p.dn, .string ⟨l.toArray⟩] 30 (0, 0)) ∧ FilesIn 0 w' v' (remF fs j) ∧ Out (· = B) w w' ∧ ∀ g, v'.ownBlock = some g → w.heap.size ≤ g := by
  obtain ⟨g, cap, hv, hc1, hc2, hgB, hat2, hfz, ⟨cs, hcs⟩⟩ := h.at hj
  subst hv
  have hBlt := h.lt
  have hglt : g < w.heap.size := (Array.getElem?_eq_some_iff.1 hcs).1
  have HH : Hid (RD 0 w B p (.slice (some ⟨g, 0, none⟩) fs.length cap) fs l) := h
  rw [hf] at hat2
  obtain ⟨c0, c1, c2, csl⟩ := hat2
  unfold Fl.x at c1 csl
  obtain ⟨m0, m1, m2, m3, n0, -⟩ := h.cells
  have hi0 : (0 : Int) ≤ (j : Int) := by omega
  have hi1 : (j : Int) < (fs.length : Int) := by omega
  have hfw := h.fw
  have hcm : cap ≤ 9223372036854775807 := by unfold maxLen at hc2; exact hc2
  have j1 : (j : Int) ≤ (cap : Int) := by omega
  have j2 : (j : Int) ≤ (fs.length : Int) := by omega
  have j3 : (fs.length : Int) ≤ (cap : Int) := by omega
  have j4 : j ≤ cap := by omega
  have j5 : IntKind.i64.wrap ((j : Int) + 1) = (j : Int) + 1 := by rw [IntKind.wrap_i64]; omega
  have j6 : (j : Int) + 1 ≤ (fs.length : Int) := by omega
  have j7 : (0 : Int) ≤ (j : Int) + 1 := by omega
  have j8 : ((j : Int) + 1).toNat = j + 1 := by omega
  have hB0 : Below w.heap.size w ((w.alloc (.cells #[.string ⟨#[]⟩, .slice none 0 0, .int .i64 0] 71)).alloc (.cells #[.string ⟨f.nm.toArray⟩, .slice f.a f.dat.length f.c, .int .i64 f.syn] 71)) := ((Below.refl _ w).alloc (Nat.le_refl _) _).alloc (by simp) _
  have hS0 : ((w.alloc (.cells #[.string ⟨#[]⟩, .slice none 0 0, .int .i64 0] 71)).alloc (.cells #[.string ⟨f.nm.toArray⟩, .slice f.a f.dat.length f.c, .int .i64 f.syn] 71)).heap.size = w.heap.size + 2 := by simp
  have hB1 : Below w.heap.size w (((w.alloc (.cells #[.string ⟨#[]⟩, .slice none 0 0, .int .i64 0] 71)).alloc (.cells #[.string ⟨f.nm.toArray⟩, .slice f.a f.dat.length f.c, .int .i64 f.syn] 71)).alloc (.cells #[] 71)) := hB0.alloc (by rw [hS0]; omega) _
  have HS0 : Hid (((w.alloc (.cells #[.string ⟨#[]⟩, .slice none 0 0, .int .i64 0] 71)).alloc (.cells #[.string ⟨f.nm.toArray⟩, .slice f.a f.dat.length f.c, .int .i64 f.syn] 71)).heap.size = w.heap.size + 2) := hS0
  have HB0 : Hid (Below w.heap.size w ((w.alloc (.cells #[.string ⟨#[]⟩, .slice none 0 0, .int .i64 0] 71)).alloc (.cells #[.string ⟨f.nm.toArray⟩, .slice f.a f.dat.length f.c, .int .i64 f.syn] 71))) := hB0
  have HBC : Hid (∀ w', Below w.heap.size w w' → w'.cell? ⟨B, 0, none⟩ = some (.slice (some ⟨g, 0, none⟩) fs.length cap) ∧ w'.frozen? ⟨B, 0, none⟩ = false) := fun w' hB => by
    have hR := (hB.block B hBlt).trans HH.out.hd
    exact ⟨by simp [World.cell?, hR], by simp [World.frozen?, hR]⟩
  have HFC : Hid (∀ w', Below (w.heap.size + 2) ((w.alloc (.cells #[.string ⟨#[]⟩, .slice none 0 0, .int .i64 0] 71)).alloc (.cells #[.string ⟨f.nm.toArray⟩, .slice f.a f.dat.length f.c, .int .i64 f.syn] 71)) w' → w'.cell? ⟨w.heap.size + 1, 0, none⟩ = some (.string ⟨f.nm.toArray⟩) ∧ w'.cell? ⟨w.heap.size + 1, 1, none⟩ = some (.slice f.a f.dat.length f.c) ∧ w'.cell? ⟨w.heap.size + 1, 2, none⟩ = some (.int .i64 f.syn) ∧ w'.cell? ⟨w.heap.size, 0, none⟩ = some (.string ⟨#[]⟩) ∧ w'.cell? ⟨w.heap.size, 1, none⟩ = some (.slice none 0 0) ∧ w'.cell? ⟨w.heap.size, 2, none⟩ = some (.int .i64 0) ∧ w'.frozen? ⟨w.heap.size, 0, none⟩ = false ∧ w'.frozen? ⟨w.heap.size, 1, none⟩ = false ∧ w'.frozen? ⟨w.heap.size, 2, none⟩ = false ∧ Hid (w'.heap[w.heap.size]? = some (.cells #[.string ⟨#[]⟩, .slice none 0 0, .int .i64 0] 71 (0, 0)))) := fun w' hB => by
    have e1 : ((w.alloc (.cells #[.string ⟨#[]⟩, .slice none 0 0, .int .i64 0] 71)).alloc (.cells #[.string ⟨f.nm.toArray⟩, .slice f.a f.dat.length f.c, .int .i64 f.syn] 71)).heap[w.heap.size + 1]? = some (.cells #[.string ⟨f.nm.toArray⟩, .slice f.a f.dat.length f.c, .int .i64 f.syn] 71 (0, 0)) := by have := heap_alloc_new (w.alloc (.cells #[.string ⟨#[]⟩, .slice none 0 0, .int .i64 0] 71)) (.cells #[.string ⟨f.nm.toArray⟩, .slice f.a f.dat.length f.c, .int .i64 f.syn] 71); simpa using this
    have e2 : ((w.alloc (.cells #[.string ⟨#[]⟩, .slice none 0 0, .int .i64 0] 71)).alloc (.cells #[.string ⟨f.nm.toArray⟩, .slice f.a f.dat.length f.c, .int .i64 f.syn] 71)).heap[w.heap.size]? = some (.cells #[.string ⟨#[]⟩, .slice none 0 0, .int .i64 0] 71 (0, 0)) := by
      have h1 := heap_alloc_new w (.cells #[.string ⟨#[]⟩, .slice none 0 0, .int .i64 0] 71)
      have h2 := ((Below.refl (w.heap.size + 1) (w.alloc (.cells #[.string ⟨#[]⟩, .slice none 0 0, .int .i64 0] 71))).alloc (by simp) (.cells #[.string ⟨f.nm.toArray⟩, .slice f.a f.dat.length f.c, .int .i64 f.syn] 71)).block w.heap.size (by omega)
      exact h2.trans h1
    have r1 := (hB.block (w.heap.size + 1) (by omega)).trans e1
    have r2 := (hB.block w.heap.size (by omega)).trans e2
    exact ⟨by simp [World.cell?, r1], by simp [World.cell?, r1], by simp [World.cell?, r1], by simp [World.cell?, r2], by simp [World.cell?, r2], by simp [World.cell?, r2], by simp [World.frozen?, r2], by simp [World.frozen?, r2], by simp [World.frozen?, r2], r2⟩
  have HFA : Hid (∀ w', Below w.heap.size w w' → FlsAt w.heap.size w' (some ⟨g, 0, none⟩) fs) := fun w' hB => by
    obtain ⟨a', c', hv', -, -, hF'⟩ := HH.out.fi.at
    cases hv'
    exact hF'.below hB
  have HST : Hid (∀ w', Below w.heap.size w w' → ∀ i u, (cellsOf (fs.take j))[i]? = some u → w'.cell? ⟨g, 0 + i, none⟩ = some u) := fun w' hB i u hu => by
    rcases HFA.out w' hB with hz | ⟨b, off, e, hb, hc⟩
    · subst hz; simp at hj
    · cases e
      exact FlsAt.cellsAt (N := w.heap.size) (fs := fs.take j) (fun i hi => by rw [getD_take (by simp at hi; omega)]; exact hc i (by simp at hi; omega)) i u hu
  have HSR : Hid (∀ w', Below w.heap.size w w' → ∀ i u, (cellsOf (fs.drop (j + 1)))[i]? = some u → w'.cell? ⟨g, (j + 1) * 3 + i, none⟩ = some u) := fun w' hB i u hu => by
    rcases HFA.out w' hB with hz | ⟨b, off, e, hb, hc⟩
    · subst hz; simp at hj
    · cases e
      exact FlsAt.cellsAt (N := w.heap.size) (fs := fs.drop (j + 1)) (fun i hi => by rw [getD_drop]; have := hc (j + 1 + i) (by simp at hi; omega); rw [show (j + 1) * 3 + i * 3 = 0 + (j + 1 + i) * 3 by omega]; exact this) i u hu
  obtain ⟨i0, hi, hz0, hz1, hz2⟩ := info_parts info37
  have x0 := (HBC.out _ hB1).1
  have hown0 : (((w.alloc (.cells #[.string ⟨#[]⟩, .slice none 0 0, .int .i64 0] 71)).alloc (.cells #[.string ⟨f.nm.toArray⟩, .slice f.a f.dat.length f.c, .int .i64 f.syn] 71)).alloc (.cells #[] 71)).ownsRow (w.heap.size + 2) 71 3 (.slice (some ⟨w.heap.size + 1 + 1, 0, none⟩) 0 0) 0 [] := by
    have hn := heap_alloc_new ((w.alloc (.cells #[.string ⟨#[]⟩, .slice none 0 0, .int .i64 0] 71)).alloc (.cells #[.string ⟨f.nm.toArray⟩, .slice f.a f.dat.length f.c, .int .i64 f.syn] 71)) (.cells #[] 71)
    rw [hS0] at hn
    exact ⟨rfl, .inr ⟨w.heap.size + 2, 0, #[], rfl, by omega, hn, Nat.le_refl _, by unfold maxLen; omega, rfl, rfl⟩⟩
  have hsrc := HST.out _ hB1
  have HJ : Hid (j < fs.length) := hj
  have hne1 : ¬ (w.heap.size + 1 = B) := by omega
  have hne2 : ¬ (w.heap.size = B) := by omega
  have HGR : Hid (∀ w1, (((w.alloc (.cells #[.string ⟨#[]⟩, .slice none 0 0, .int .i64 0] 71)).alloc (.cells #[.string ⟨f.nm.toArray⟩, .slice f.a f.dat.length f.c, .int .i64 f.syn] 71)).alloc (.cells #[] 71)).grownBy w1 (some (w.heap.size + 2)) → Below (w.heap.size + 2) ((w.alloc (.cells #[.string ⟨#[]⟩, .slice none 0 0, .int .i64 0] 71)).alloc (.cells #[.string ⟨f.nm.toArray⟩, .slice f.a f.dat.length f.c, .int .i64 f.syn] 71)) w1 ∧ Below w.heap.size w w1) := fun w1 hg1 => by
    have h1 : Below (w.heap.size + 2) ((w.alloc (.cells #[.string ⟨#[]⟩, .slice none 0 0, .int .i64 0] 71)).alloc (.cells #[.string ⟨f.nm.toArray⟩, .slice f.a f.dat.length f.c, .int .i64 f.syn] 71)) (((w.alloc (.cells #[.string ⟨#[]⟩, .slice none 0 0, .int .i64 0] 71)).alloc (.cells #[.string ⟨f.nm.toArray⟩, .slice f.a f.dat.length f.c, .int .i64 f.syn] 71)).alloc (.cells #[] 71)) := (Below.refl _ ((w.alloc (.cells #[.string ⟨#[]⟩, .slice none 0 0, .int .i64 0] 71)).alloc (.cells #[.string ⟨f.nm.toArray⟩, .slice f.a f.dat.length f.c, .int .i64 f.syn] 71))).alloc (by simp) _
    have h2 := h1.grown hg1 (by simp) (fun k e => by cases e; exact Nat.le_refl _)
    exact ⟨h2, HB0.out.trans (h2.mono (by omega))⟩
  clear hcs hf h hB0 hS0
  have hlt := HJ.out
  by_cases hend : j + 1 = cap
  · have q0 : fs.length = j + 1 := by omega
    have HL : Hid (fs.length - (j + 1) = 0 ∧ fs.drop (j + 1) = []) := ⟨by omega, List.drop_eq_nil_of_le (by omega)⟩
    have q1 : cap - (j + 1) = 0 := by omega
    have q2 : cap ≤ j + 1 := by omega
    have q4 : j + 1 ≤ cap := by omega
    have q5 : (j : Int) + 1 ≤ (cap : Int) := by omega
    have q6 : fs.length - (j + 1) = 0 := by omega
    clear q0 hend
    go_enter Tryz.func106, Tryz.ntmps106
    go_wp2_with (first
      | (at_builtin; refine wpList_append_own _ rfl _ _ 28 rfl (w.heap.size + 2) 71 i0 _ 3 48 Tryz.underlying28 hi hz0 hz1 hz2 rfl (by decide) _ 0 [] rfl hown0 ⟨g, 0, none⟩ j cap (cellsOf (fs.take j)) rfl (by rw [cellsOf_len]; simp; omega) (fun i u hu => by rw [Addr.add_lit]; exact hsrc i u hu) cellsOf_one (by unfold maxLen; omega) (by omega) (by simp) ?_; intro v1 w1 hown1 hg1 _; obtain ⟨hb1, hb1'⟩ := HGR.out w1 hg1; have y0 := (HBC.out w1 hb1').1; rw [Nat.zero_add, List.nil_append] at hown1; obtain ⟨a1, d1, rfl⟩ := row_shape hown1)
      | (at_builtin; refine wpList_append_own _ rfl _ _ 28 rfl (w.heap.size + 2) 71 i0 _ 3 48 Tryz.underlying28 hi hz0 hz1 hz2 rfl (by decide) _ j _ rfl hown1 _ 0 _ [] rfl rfl (fun i u hu => by simp at hu) (by simp) (by unfold maxLen; omega) (by omega) (by have := hb1.size; have := HS0.out; omega) ?_; intro v2 w2 hown2 hg2 _; have hb2 : Below (w.heap.size + 2) ((w.alloc (.cells #[.string ⟨#[]⟩, .slice none 0 0, .int .i64 0] 71)).alloc (.cells #[.string ⟨f.nm.toArray⟩, .slice f.a f.dat.length f.c, .int .i64 f.syn] 71)) w2 := hb1.grown hg2 (by have := hb1.size; have := HS0.out; omega) (fun k e => (hown1.lt k e).1); have hb2' : Below w.heap.size w w2 := HB0.out.trans (hb2.mono (by omega)); obtain ⟨z0, z1⟩ := HBC.out w2 hb2'; obtain ⟨t0, t1, t2, t3, t4, t5, t6, t7, t8, t9⟩ := HFC.out w2 hb2; obtain ⟨a2, d2, rfl⟩ := row_shape hown2))
    (try simp only [Exit.inBlock, Exit.then])
    refine bodyPost_ret (results_37 rfl _ _ w.heap.size rfl (set3 ((Below.heap_setCell _ _ _ _ (fun e => hne2 e)).trans t9.out) _ _ _)) rfl ?_
    exact ⟨rfl, _, take_done HH.out HJ.out hb2' (by rw [HL.out.1, HL.out.2]; simpa [cellsOf] using hown2) (((Out.set (X := (· = w.heap.size)) rfl).trans (Out.set (X := (· = w.heap.size)) rfl) (fun i hi _ => hi)).trans (Out.set (X := (· = w.heap.size)) rfl) (fun i hi _ => hi))⟩
  · have q1 : ¬ (cap - (j + 1) = 0) := by omega
    have q2 : ¬ (cap ≤ j + 1) := by omega
    have q3 : j + 1 < cap := by omega
    have q4 : j + 1 ≤ cap := by omega
    have q5 : (j : Int) + 1 ≤ (cap : Int) := by omega
    go_enter Tryz.func106, Tryz.ntmps106
    go_wp2_with (first
      | (at_builtin; refine wpList_append_own _ rfl _ _ 28 rfl (w.heap.size + 2) 71 i0 _ 3 48 Tryz.underlying28 hi hz0 hz1 hz2 rfl (by decide) _ 0 [] rfl hown0 ⟨g, 0, none⟩ j cap (cellsOf (fs.take j)) rfl (by rw [cellsOf_len]; simp; omega) (fun i u hu => by rw [Addr.add_lit]; exact hsrc i u hu) cellsOf_one (by unfold maxLen; omega) (by omega) (by simp) ?_; intro v1 w1 hown1 hg1 _; obtain ⟨hb1, hb1'⟩ := HGR.out w1 hg1; have y0 := (HBC.out w1 hb1').1; rw [Nat.zero_add, List.nil_append] at hown1; obtain ⟨a1, d1, rfl⟩ := row_shape hown1)
      | (at_builtin; refine wpList_append_own _ rfl _ _ 28 rfl (w.heap.size + 2) 71 i0 _ 3 48 Tryz.underlying28 hi hz0 hz1 hz2 rfl (by decide) _ j _ rfl hown1 ⟨g, (j + 1) * 3, none⟩ (fs.length - (j + 1)) _ (cellsOf (fs.drop (j + 1))) rfl (by rw [cellsOf_len]; simp) (fun i u hu => by rw [Addr.add_lit]; exact HSR.out w1 hb1' i u hu) cellsOf_one (by unfold maxLen; omega) (by omega) (by have := hb1.size; have := HS0.out; omega) ?_; intro v2 w2 hown2 hg2 _; have hb2 : Below (w.heap.size + 2) ((w.alloc (.cells #[.string ⟨#[]⟩, .slice none 0 0, .int .i64 0] 71)).alloc (.cells #[.string ⟨f.nm.toArray⟩, .slice f.a f.dat.length f.c, .int .i64 f.syn] 71)) w2 := hb1.grown hg2 (by have := hb1.size; have := HS0.out; omega) (fun k e => (hown1.lt k e).1); have hb2' : Below w.heap.size w w2 := HB0.out.trans (hb2.mono (by omega)); obtain ⟨z0, z1⟩ := HBC.out w2 hb2'; obtain ⟨t0, t1, t2, t3, t4, t5, t6, t7, t8, t9⟩ := HFC.out w2 hb2; obtain ⟨a2, d2, rfl⟩ := row_shape hown2))
    (try simp only [Exit.inBlock, Exit.then])
    refine bodyPost_ret (results_37 rfl _ _ w.heap.size rfl (set3 ((Below.heap_setCell _ _ _ _ (fun e => hne2 e)).trans t9.out) _ _ _)) rfl ?_
    exact ⟨rfl, _, take_done HH.out HJ.out hb2' hown2 (((Out.set (X := (· = w.heap.size)) rfl).trans (Out.set (X := (· = w.heap.size)) rfl) (fun i hi _ => hi)).trans (Out.set (X := (· = w.heap.size)) rfl) (fun i hi _ => hi))⟩
end Go.Proofs.YtadajbdmlmickaaGreatDoor
namespace Go.Proofs.YtadajbdmlmickaaGreatDoor
open Go.RowKit Go.Shelf
set_option linter.unusedVariables false

theorem says_nms {fs : List Fl} {ps : List PF} (h : fs.map Fl.says = ps.map PF.says) : fs.map Fl.nm = ps.map PF.nm := by
  have := congrArg (List.map fun (x : List UInt8 × List UInt8 × Int) => x.1) h
  rw [List.map_map, List.map_map] at this
  exact this
theorem says_rem : ∀ {fs : List Fl} {ps : List PF} {j : Nat} {nm : List UInt8}, fs.map Fl.says = ps.map PF.says → ps.Pairwise (fun f g => f.nm ≠ g.nm) → j < fs.length → (fs.getD j nilFl).nm = nm → (remF fs j).map Fl.says = (delP nm ps).map PF.says
  | [], _, _, _, _, _, h, _ => by simp at h
  | _ :: _, [], _, _, h, _, _, _ => by simp at h
  | f :: r, q :: s, 0, nm, h, hp, _, hn => by
    simp only [List.map_cons, List.cons.injEq] at h
    obtain ⟨h1, h2⟩ := List.pairwise_cons.1 hp
    simp only [List.getD_cons_zero] at hn
    have hq : q.nm = nm := by have := h.1; simp only [Fl.says, PF.says, Prod.mk.injEq] at this; rw [← this.1]; exact hn
    have e : delP nm (q :: s) = s := by
      unfold delP
      rw [List.filter_cons_of_neg (by simp [hq])]
      exact List.filter_eq_self.2 (fun x hx => by have := h1 x hx; rw [hq] at this; simpa using fun e : x.nm = nm => this e.symm)
    rw [e]
    simpa [remF] using h.2
  | f :: r, q :: s, j + 1, nm, h, hp, hj, hn => by
    simp only [List.map_cons, List.cons.injEq] at h
    obtain ⟨h1, h2⟩ := List.pairwise_cons.1 hp
    have hj' : j < r.length := by simpa using hj
    simp only [List.getD_cons_succ] at hn
    have ih := says_rem h.2 h2 hj' hn
    have hq : q.nm ≠ nm := fun e => by
      have : (r.getD j nilFl).says ∈ s.map PF.says := by rw [← h.2]; exact List.mem_map_of_mem (getD_mem hj')
      obtain ⟨x, hx, e2⟩ := List.mem_map.1 this
      simp only [Fl.says, PF.says, Prod.mk.injEq] at e2
      exact h1 x hx (by rw [e, e2.1, hn])
    have e : delP nm (q :: s) = q :: delP nm s := by
      unfold delP
      rw [List.filter_cons_of_pos (by simpa using hq)]
    have e2 : remF (f :: r) (j + 1) = f :: remF r j := by simp [remF]
    rw [e, e2, List.map_cons, List.map_cons, h.1, ih]
theorem rem_len {fs : List Fl} {j : Nat} (hj : j < fs.length) : (remF fs j).length + 1 = fs.length := by simp [remF]; omega
theorem rem_mem {fs : List Fl} {j : Nat} {f : Fl} (hf : f ∈ remF fs j) : f ∈ fs := by
  rcases List.mem_append.1 hf with hf | hf
  · exact List.mem_of_mem_take hf
  · exact List.mem_of_mem_drop hf
/-- A file is gone. -/
theorem RD.rem {w w' : World} {B j : Nat} {p : PD} {v v' : Value} {fs : List Fl} {l l' nm : List UInt8} (h : RD 0 w B p v fs l) (hp : p.fs.Pairwise (fun f g => f.nm ≠ g.nm)) (hj : j < fs.length) (hn : (fs.getD j nilFl).nm = nm) (hd : w'.heap[B]? = some (.cells #[v', .int .i64 (p.arm : Int), .bool p.dn, .string ⟨l'.toArray⟩] 30 (0, 0))) (hfi : FilesIn 0 w' v' (remF fs j)) (hla : ∀ f ∈ delP nm p.fs, f.late = (f.nm == l')) : RD 0 w' B { p with fs := delP nm p.fs } v' (remF fs j) l' := by
  refine ⟨Nat.zero_le _, hd, hfi, says_rem h.sy hp hj hn, ?_, ?_, hla⟩
  · have := rem_len hj
    have := h.fw
    omega
  · have := sumP_delP nm p.fs
    have := h.sm
    show sumP (delP nm p.fs) ≤ _
    omega
theorem del_mem {f : PF} {nm : List UInt8} {ps : List PF} : f ∈ delP nm ps ↔ f ∈ ps ∧ f.nm ≠ nm := by simp [delP]

set_option maxRecDepth 100000 in
set_option maxHeartbeats 8000000 in
theorem refRemove {S : Nat → Prop} {w : World} {B : Nat} {p : PD} (h : RDs S w B p) (hg : Good p) (nm : List UInt8) :
    Calls Tryz.prog 73 #[.pointer (some ⟨B, 0, none⟩), .string ⟨nm.toArray⟩] w fun r w' => RDone S w B (doRemove p nm) r w' := by
  obtain ⟨v, fs, l, h⟩ := h
  obtain ⟨k0, k1, k2, k3, f0, f1, f2, f3⟩ := h.rd.cells
  have HH : Hid (Rdo S w B p v fs l) := h
  have HS := says_nm h.rd.sy nm
  obtain ⟨va, vc, hv⟩ := row_shape h.rd.fi.row
  have hat := refAt_any h.rd nm
  have hsm := h.rd.sm
  cases hd : p.dn with
  | true =>
    have HE : Hid (doRemove p nm = (11, p)) := by show doRemove p nm = _; simp [doRemove, hd]
    rw [hd] at k2
    clear h HS hd
    subst hv
    go_enter Tryz.func73, Tryz.ntmps73
    go_wp2
    go_ret
    exact RDone.mk HE.out rfl (Out.refl _ _) HH.out.grew
  | false =>
  rw [hd] at k2
  by_cases h2 : (lookP nm p.fs).isSome = true
  case neg =>
    have hnone : lookP nm p.fs = none := by simpa using h2
    have HE : Hid (doRemove p nm = (8, p)) := by show doRemove p nm = _; simp [doRemove, hd, hnone]
    have HX : Hid (∀ f ∈ fs, f.nm ≠ nm) := fun f hf e => h2 (HS.1 ⟨f, hf, e⟩)
    clear h h2 HS hd hnone
    subst hv
    go_enter Tryz.func73, Tryz.ntmps73
    go_wp2_with (first
      | (go_at_call 82; refine hat.mono ?_; rintro r w' ⟨i, rfl, hi, hw⟩; subst w'; have hi0 : i < (0 : Int) := at_neg hi HX.out; clear hi)
      | fail)
    go_ret
    exact RDone.mk HE.out rfl (Out.refl _ _) HH.out.grew
  have HX : Hid (∃ f ∈ fs, f.nm = nm) := HS.2 h2
  have HE : Hid (doRemove p nm = if p.fell then (11, p.fail) else (0, { p.fail with fs := delP nm p.fs })) := by
    show doRemove p nm = _
    simp only [doRemove, hd]
    rw [if_neg (by simp), if_neg (by simp [h2])]
  have HG : Hid (Good p) := hg
  have hfl := refFails_any h.rd hg.arm
  have HP : Hid (p.fail.fs = p.fs) := pd_fail_fs p
  clear h2 HS hd
  cases hfe : p.fell with
  | true =>
    rw [hfe] at hfl
    have HFE : Hid (p.fell = true) := hfe
    clear h hfe
    subst hv
    go_enter Tryz.func73, Tryz.ntmps73
    go_wp2_with (first
      | (go_at_call 82; refine hat.mono ?_; rintro r w' ⟨i, rfl, hi, hw⟩; subst w'; obtain ⟨j, rfl, hj, hjn⟩ := at_pos hi HX.out; have hi0 : (0 : Int) ≤ (j : Int) := (by omega); have hi1 : (j : Int) < (fs.length : Int) := (by omega); clear hi)
      | (go_at_call 105; refine hfl.mono ?_; rintro r w1 ⟨rfl, hR1, hO1⟩)
      | fail)
    go_ret
    exact RDone.mk (by rw [HE.out, HFE.out]; rfl) rfl (hO1.fit (X := S) HH.out.SB) (HH.out.step (hO1.fit (X := S) HH.out.SB) hR1 (fun g hg => .inl (HH.out.Sv g hg)) (fun f hf => .inl hf) (by rw [HP.out]; exact HH.out.lt0))
  | false =>
    rw [hfe] at hfl
    have HFE : Hid (p.fell = false) := hfe
    clear h hfe
    subst hv
    have HDN : Hid (∀ (w1 w2 : World) (v2 : Value) (j : Nat) (l' : List UInt8), RD 0 w1 B p.fail (.slice va fs.length vc) fs l → j < fs.length → (fs.getD j nilFl).nm = nm → Out (· = B) w w2 → w2.heap[B]? = some (.cells #[v2, .int .i64 (p.fail.arm : Int), .bool p.fail.dn, .string ⟨l'.toArray⟩] 30 (0, 0)) → FilesIn 0 w2 v2 (remF fs j) → (∀ g, v2.ownBlock = some g → w.heap.size ≤ g) → ((l = nm ∧ l' = []) ∨ (l ≠ nm ∧ l' = l)) → RDone S w B (doRemove p nm) (.returned (.int .i64 0)) w2) := by
      intro w1 w2 v2 j l' hR1 hj hjn hO2 hb2 hf2 hn2 hll
      have hne : p.fail.fs.Pairwise (fun f g => f.nm ≠ g.nm) := by rw [HP.out]; exact rise_ne HG.out.rise
      have hla : ∀ f ∈ delP nm p.fail.fs, f.late = (f.nm == l') := fun f hf => by
        obtain ⟨hf1, hf2⟩ := del_mem.1 hf
        have h1 := hR1.la f hf1
        rcases hll with ⟨e1, e2⟩ | ⟨e1, e2⟩
        · rw [h1, e1, e2]
          have h2 := isNm_ne (HG.out.nms f (by rw [← HP.out]; exact hf1))
          rw [show (f.nm == nm) = false from by simpa using hf2, show (f.nm == []) = false from by simpa using h2]
        · rw [h1, e2]
      have hR3 := hR1.rem hne hj hjn hb2 hf2 hla
      rw [HP.out] at hR3
      have hOS : Out S w w2 := hO2.fit (X := S) HH.out.SB
      refine RDone.mk (by rw [HE.out, HFE.out]; rfl) rfl hOS (HH.out.step hOS hR3 (fun g hg => .inr (hn2 g hg)) (fun f hf => .inl (rem_mem hf)) ?_)
      rcases hll with ⟨e1, e2⟩ | ⟨e1, e2⟩
      · exact .inl e2
      · rcases HH.out.lt0 with e | ⟨f, hf, e⟩
        · exact .inl (by rw [e2, e])
        · exact .inr ⟨f, del_mem.2 ⟨hf, by rw [e]; exact e1⟩, by rw [e2, e]⟩
    by_cases hln : l = nm
    · subst hln
      go_enter Tryz.func73, Tryz.ntmps73
      go_wp2_with (first
        | (go_at_call 82; refine hat.mono ?_; rintro r w' ⟨i, rfl, hi, hw⟩; subst w'; obtain ⟨j, rfl, hj, hjn⟩ := at_pos hi HX.out; have hi0 : (0 : Int) ≤ (j : Int) := (by omega); have hi1 : (j : Int) < (fs.length : Int) := (by omega); clear hi)
        | (go_at_call 105; refine hfl.mono ?_; rintro r w1 ⟨rfl, hR1, hO1⟩; have hta := refTake hR1 hj _ rfl)
        | (go_at_call 106; refine hta.mono ?_; rintro r w2 ⟨rfl, v2, hb2, hf2, ho2, hn2⟩; have z3 : w2.cell? ⟨B, 3, none⟩ = some (.string ⟨l.toArray⟩) := (by simp [World.cell?, hb2]); have z4 : w2.frozen? ⟨B, 3, none⟩ = false := (by simp [World.frozen?, hb2]))
        | fail)
      go_ret
      have hO2 : Out (· = B) w w2 := hO1.trans ho2 (fun i hi _ => hi)
      refine HDN.out w1 _ v2 j [] hR1 hj hjn (hO2.trans (Out.set (X := (· = B)) rfl) (fun i hi _ => hi)) (by simpa using heap_set hb2 3 (.string ⟨#[]⟩)) ?_ (fun g hg => Nat.le_trans hO1.size (hn2 g hg)) (.inl (by simp))
      have hset : Out (· = B) w2 (w2.setCell ⟨B, 3, none⟩ (.string ⟨#[]⟩)) := Out.set rfl
      refine ⟨row_out hf2.row hset (fun g hg e => ?_), fun f hf => (hf2.own f hf).out hset (fun g hg e => (hf2.own f hf).not_at hb2 (by decide) (by rw [hg, e]))⟩
      have := hn2 g hg
      have := hR1.lt
      omega
    · have hln' : (l == nm) = false := by simpa using hln
      have HLN : Hid (l ≠ nm) := hln
      clear hln
      go_enter Tryz.func73, Tryz.ntmps73
      go_wp2_with (first
        | (go_at_call 82; refine hat.mono ?_; rintro r w' ⟨i, rfl, hi, hw⟩; subst w'; obtain ⟨j, rfl, hj, hjn⟩ := at_pos hi HX.out; have hi0 : (0 : Int) ≤ (j : Int) := (by omega); have hi1 : (j : Int) < (fs.length : Int) := (by omega); clear hi)
        | (go_at_call 105; refine hfl.mono ?_; rintro r w1 ⟨rfl, hR1, hO1⟩; have hta := refTake hR1 hj _ rfl)
        | (go_at_call 106; refine hta.mono ?_; rintro r w2 ⟨rfl, v2, hb2, hf2, ho2, hn2⟩; have z3 : w2.cell? ⟨B, 3, none⟩ = some (.string ⟨l.toArray⟩) := (by simp [World.cell?, hb2]))
        | fail)
      go_ret
      exact HDN.out w1 w2 v2 j l hR1 hj hjn (hO1.trans ho2 (fun i hi _ => hi)) hb2 hf2 (fun g hg => Nat.le_trans hO1.size (hn2 g hg)) (.inr ⟨HLN.out, rfl⟩)
end Go.Proofs.YtadajbdmlmickaaGreatDoor
namespace Go.Proofs.YtadajbdmlmickaaGreatDoor
open Go.RowKit Go.Shelf
set_option linter.unusedVariables false

theorem Out.put {X : Nat → Prop} {w a : World} {b o : Nat} {u : Value} (h : Out X w a) (hb : X b) : Out X w (a.setCell ⟨b, o, none⟩ u) := h.trans (Out.set (X := X) hb) (fun i hi _ => hi)
theorem RD.move {w w' : World} {B b0 : Nat} {p : PD} {v : Value} {fs : List Fl} {l l' : List UInt8} (h : RD 0 w B p v fs l) (hO : Out (fun i => i = B ∨ i = b0) w w') (hd : w'.heap[B]? = some (.cells #[v, .int .i64 (p.arm : Int), .bool p.dn, .string ⟨l'.toArray⟩] 30 (0, 0))) (hv : ∀ g, v.ownBlock = some g → g ≠ b0) (hf : ∀ f ∈ fs, ∀ g, f.x.ownBlock = some g → g ≠ b0) (hla : ∀ f ∈ p.fs, f.late = (f.nm == l')) : RD 0 w' B p v fs l' := by
  refine ⟨Nat.zero_le _, hd, ⟨row_out h.fi.row hO (fun g hg e => ?_), fun f hf' => (h.fi.own f hf').out hO (fun g hg e => ?_)⟩, h.sy, h.fw, h.sm, hla⟩
  · rcases e with e | e
    · rcases h.fi.row.2 with ⟨hv0, _⟩ | ⟨g', cap, cur, hv0, _, hgb, _⟩
      · rw [hv0] at hg; simp [Value.ownBlock] at hg
      · rw [hv0] at hg
        simp [Value.ownBlock] at hg
        subst hg e
        rw [h.hd] at hgb
        cases hgb
    · exact hv g hg e
  · rcases e with e | e
    · exact (h.fi.own f hf').not_at h.hd (by decide) (by rw [hg, e])
    · exact hf f hf' g hg e
/-- A file is put in. -/
theorem RD.ins {w w' : World} {B : Nat} {p : PD} {v v' : Value} {fs : List Fl} {l : List UInt8} (h : RD 0 w B p v fs l) (f : Fl) (g : PF) (hfg : f.says = g.says) (hno : ∀ q ∈ p.fs, q.nm ≠ g.nm) (hlate : g.late = (g.nm == l)) (hlen : fs.length < 256) (hsum : g.dat.length + sumP p.fs ≤ 16777216)
    (hd : w'.heap[B]? = some (.cells #[v', .int .i64 (p.arm : Int), .bool p.dn, .string ⟨l.toArray⟩] 30 (0, 0))) (hfi : FilesIn 0 w' v' (insF f fs)) : RD 0 w' B { p with fs := insP g p.fs } v' (insF f fs) l := by
  refine ⟨Nat.zero_le _, hd, hfi, insF_says f g hfg h.sy hno, by rw [len_ins]; omega, ?_, fun x hx => ?_⟩
  · show sumP (insP g p.fs) ≤ _
    rw [sumP_insP]
    exact hsum
  · rcases mem_insP.1 hx with rfl | hx
    · exact hlate
    · exact h.la x hx
theorem sum_del {q : PF} : ∀ {ps : List PF}, q ∈ ps → q.dat.length + sumP (delP q.nm ps) ≤ sumP ps
  | [], h => by simp at h
  | y :: t, h => by
    by_cases e : (y.nm == q.nm) = true
    · have e1 : delP q.nm (y :: t) = delP q.nm t := by simp [delP, e]
      rw [e1]
      rcases List.mem_cons.1 h with rfl | h'
      · have := sumP_delP q.nm t
        simp only [sumP, List.map_cons, List.sum_cons] at *
        omega
      · have := sum_del h'
        simp only [sumP, List.map_cons, List.sum_cons] at *
        omega
    · have e1 : delP q.nm (y :: t) = y :: delP q.nm t := by simp [delP, e]
      rw [e1]
      rcases List.mem_cons.1 h with rfl | h'
      · exact absurd (by simp) e
      · have := sum_del h'
        simp only [sumP, List.map_cons, List.sum_cons] at *
        omega
theorem del_three (nm to : List UInt8) (ps : List PF) : delP to (delP nm (delP to ps)) = delP to (delP nm ps) := by
  unfold delP
  rw [List.filter_filter, List.filter_filter, List.filter_filter]
  refine List.filter_congr fun x _ => ?_
  cases (x.nm == to) <;> simp
def lateTo (l nm to : List UInt8) : List UInt8 := if l = to then [] else if l = nm then to else l
theorem late_else {p : PD} (hg : Good p) {l nm to : List UInt8} (hla : ∀ f ∈ p.fs, f.late = (f.nm == l)) : ∀ f ∈ delP to (delP nm p.fs), f.late = (f.nm == lateTo l nm to) := fun f hf => by
  obtain ⟨h1, h2⟩ := del_mem.1 hf
  obtain ⟨h1, h3⟩ := del_mem.1 h1
  rw [hla f h1]
  have h4 := isNm_ne (hg.nms f h1)
  unfold lateTo
  split
  · rename_i e; rw [e, show (f.nm == to) = false from by simpa using h2, show (f.nm == []) = false from by simpa using h4]
  · split
    · rename_i e; rw [e, show (f.nm == nm) = false from by simpa using h3, show (f.nm == to) = false from by simpa using h2]
    · rfl
theorem ne_pair {ps : List PF} (h : ps.Pairwise (fun f g => f.nm ≠ g.nm)) (nm : List UInt8) : (delP nm ps).Pairwise (fun f g => f.nm ≠ g.nm) := h.filter _
/-- What Rename leaves. -/
theorem ren_done {S : Nat → Prop} {w wf w' : World} {B : Nat} {p : PD} {v vf v' : Value} {fs fsf : List Fl} {l nm to : List UInt8} {q : PF} {f : Fl} (h : Rdo S w B p v fs l) (hG : Good p) (hq : lookP nm p.fs = some q) (hqs : q.says = f.says) (hne : nm ≠ to) (hto : isNm to = true)
    (hRf : RD 0 wf B { p.fail with fs := delP to (delP nm p.fs) } vf fsf (lateTo l nm to)) (hlen : fsf.length < 256) (hO : Out (· = B) w w') (hd : w'.heap[B]? = some (.cells #[v', .int .i64 (p.fail.arm : Int), .bool p.fail.dn, .string ⟨(lateTo l nm to).toArray⟩] 30 (0, 0))) (hfi : FilesIn 0 w' v' (insF ⟨to, f.a, f.c, f.dat, f.syn⟩ fsf)) (hn : ∀ g, v'.ownBlock = some g → w.heap.size ≤ g) (hm : ∀ x ∈ fsf, x ∈ fs) (hfm : f ∈ fs)
    (hE : doRename p nm to = (0, { p.fail with fs := insP { q with nm := to } (delP to (delP nm (delP to p.fs))) })) : RDone S w B (doRename p nm to) (.returned (.int .i64 0)) w' := by
  have hqm := List.mem_of_find?_eq_some hq
  have hqn : q.nm = nm := by simpa using List.find?_some hq
  simp only [Fl.says, PF.says, Prod.mk.injEq] at hqs
  have hR := hRf.ins ⟨to, f.a, f.c, f.dat, f.syn⟩ { q with nm := to } (by simp only [Fl.says, PF.says, Prod.mk.injEq]; exact ⟨trivial, hqs.2.1.symm, hqs.2.2.symm⟩) (fun x hx => (del_mem.1 hx).2) (by
    show q.late = (to == lateTo l nm to)
    rw [h.rd.la q hqm, hqn]
    have h4 := isNm_ne hto
    unfold lateTo
    split
    · rename_i e; rw [e, show (nm == to) = false from by simpa using hne, show (to == []) = false from by simpa using h4]
    · rename_i e0
      split
      · rename_i e; rw [e]; simp
      · rename_i e; rw [show (nm == l) = false from by simpa using fun e2 : nm = l => e e2.symm, show (to == l) = false from by simpa using fun e2 : to = l => e0 e2.symm]) hlen (by
    show q.dat.length + sumP (delP to (delP nm p.fs)) ≤ 16777216
    have h1 := sumP_delP to (delP nm p.fs)
    have h2 := sum_del hqm
    rw [hqn] at h2
    have h3 := h.rd.sm
    omega) hd hfi
  have e : insP { q with nm := to } (delP to (delP nm p.fs)) = insP { q with nm := to } (delP to (delP nm (delP to p.fs))) := by rw [del_three]
  simp only at hR
  rw [e] at hR
  have hOS : Out S w w' := hO.fit (X := S) h.SB
  refine RDone.mk hE rfl hOS (h.step hOS hR (fun g hg => .inr (hn g hg)) (fun x hx => ?_) ?_)
  · rcases mem_insF hx with rfl | hx
    · exact .inr (fun g hg => .inl (h.Sf f hfm g hg))
    · exact .inl (hm x hx)
  · show lateTo l nm to = [] ∨ ∃ x ∈ insP { q with nm := to } (delP to (delP nm (delP to p.fs))), x.nm = lateTo l nm to
    rw [del_three]
    unfold lateTo
    split
    · exact .inl rfl
    · rename_i e0
      split
      · exact .inr ⟨_, mem_insP.2 (.inl rfl), rfl⟩
      · rename_i e1
        rcases h.lt0 with e | ⟨x, hx, e⟩
        · exact .inl e
        · exact .inr ⟨x, mem_insP.2 (.inr (del_mem.2 ⟨del_mem.2 ⟨hx, by rw [e]; exact e1⟩, by rw [e]; exact e0⟩)), e⟩
theorem heap_alloc_ne {w : World} {i : Nat} (o : Obj) (h : i ≠ w.heap.size) : (w.alloc o).heap[i]? = w.heap[i]? := by
  simp only [World.alloc, Array.getElem?_push]
  rw [if_neg h]
theorem Out.swap {X : Nat → Prop} {w : World} {a b : Obj} (h : X w.heap.size) : Out X (w.alloc a) (w.alloc b) :=
  ⟨rfl, rfl, rfl, by simp, fun i hi hx => by
    have hne : i ≠ w.heap.size := fun e => hx (by rw [e]; exact h)
    rw [heap_alloc_ne b hne, heap_alloc_ne a hne]⟩
theorem rem_in {fs : List Fl} {j : Nat} {x : Fl} (hj : j < fs.length) (hx : x ∈ fs) (hn : x.nm ≠ (fs.getD j nilFl).nm) : x ∈ remF fs j := by
  have e : fs = fs.take j ++ fs.getD j nilFl :: fs.drop (j + 1) := by rw [← drop_fl hj, List.take_append_drop]
  rw [e] at hx
  rcases List.mem_append.1 hx with hx | hx
  · exact List.mem_append.2 (.inl hx)
  · rcases List.mem_cons.1 hx with rfl | hx
    · exact absurd rfl hn
    · exact List.mem_append.2 (.inr hx)
theorem ren_put {S : Nat → Prop} {w wx WF : World} {B b0 : Nat} {p : PD} {v vx : Value} {fs fsx : List Fl} {l nm to : List UInt8} {q : PF} {f : Fl} (h : Rdo S w B p v fs l) (hG : Good p) (hq : lookP nm p.fs = some q) (hqs : q.says = f.says) (hne : nm ≠ to) (hto : isNm to = true)
    (hRx : RD 0 wx B { p.fail with fs := delP to (delP nm p.fs) } vx fsx l) (hOx : Out (· = B) w wx) (hb0 : w.heap.size ≤ b0) (hvx : ∀ g, vx.ownBlock = some g → g ≠ b0) (hlen : fsx.length < 256) (hm : ∀ x ∈ fsx, x ∈ fs) (hfm : f ∈ fs)
    (hE : doRename p nm to = (0, { p.fail with fs := insP { q with nm := to } (delP to (delP nm (delP to p.fs))) })) (hO : Out (fun i => i = B ∨ i = b0) wx WF) (hd : WF.heap[B]? = some (.cells #[vx, .int .i64 (p.fail.arm : Int), .bool p.fail.dn, .string ⟨(lateTo l nm to).toArray⟩] 30 (0, 0))) :
    Calls Tryz.prog 108 #[.pointer (some ⟨B, 0, none⟩), .agg #[.string ⟨to.toArray⟩, .slice f.a f.dat.length f.c, .int .i64 f.syn]] WF fun r w5 => r = .returned (.tuple #[]) ∧ RDone S w B (doRename p nm to) (.returned (.int .i64 0)) w5 := by
  have hlt : ∀ x ∈ fs, ∀ g, x.x.ownBlock = some g → g ≠ b0 := fun x hx g hg e => by
    have := (World.ownsRow.lt (h.rd.fi.own x hx) g hg).2
    omega
  have hRf := hRx.move hO hd hvx (fun x hx => hlt x (hm x hx)) (late_else hG h.rd.la)
  have hOF : Out (· = B) w WF := hOx.trans hO (fun i hi hl => hi.resolve_right (by omega))
  have hOw := (h.rd.fi.own f hfm).out hOF (fun g hg e => (h.rd.fi.own f hfm).not_at h.rd.hd (by decide) (by rw [hg, e]))
  refine (refPut hRf to f.a f.c f.dat f.syn hOw hlen).mono ?_
  rintro r w5 ⟨rfl, v5, hb5, hf5, ho5, hn5⟩
  exact ⟨rfl, ren_done h hG hq hqs hne hto hRf hlen (hOF.trans ho5 (fun i hi _ => hi)) hb5 hf5 (fun g hg => Nat.le_trans hOF.size (hn5 g hg)) hm hfm hE⟩

set_option maxRecDepth 100000 in
set_option maxHeartbeats 8000000 in
theorem refRename {S : Nat → Prop} {w : World} {B : Nat} {p : PD} (h : RDs S w B p) (hg : Good p) (nm : List UInt8) (to : List UInt8) (ht : to.length ≤ maxLen) :
    Calls Tryz.prog 77 #[.pointer (some ⟨B, 0, none⟩), .string ⟨nm.toArray⟩, .string ⟨to.toArray⟩] w fun r w' => RDone S w B (doRename p nm to) r w' := by
  obtain ⟨v, fs, l, h⟩ := h
  obtain ⟨k0, k1, k2, k3, f0, f1, f2, f3⟩ := h.rd.cells
  have HH : Hid (Rdo S w B p v fs l) := h
  have HS := says_nm h.rd.sy nm
  obtain ⟨va, vc, hv⟩ := row_shape h.rd.fi.row
  have hat := refAt_any h.rd nm
  have hsm := h.rd.sm
  cases hd : p.dn with
  | true =>
    have HE : Hid (doRename p nm to = (11, p)) := by show doRename p nm to = _; simp [doRename, hd]
    rw [hd] at k2
    clear h HS hd
    subst hv
    go_enter Tryz.func77, Tryz.ntmps77
    go_wp2
    go_ret
    exact RDone.mk HE.out rfl (Out.refl _ _) HH.out.grew
  | false =>
  rw [hd] at k2
  by_cases h2 : (lookP nm p.fs).isSome = true
  case neg =>
    have hnone : lookP nm p.fs = none := by simpa using h2
    have HE : Hid (doRename p nm to = (8, p)) := by show doRename p nm to = _; simp [doRename, hd, hnone]
    have HX : Hid (∀ f ∈ fs, f.nm ≠ nm) := fun f hf e => h2 (HS.1 ⟨f, hf, e⟩)
    clear h h2 HS hd hnone
    subst hv
    go_enter Tryz.func77, Tryz.ntmps77
    go_wp2_with (first
      | (go_at_call 82; refine hat.mono ?_; rintro r w' ⟨i, rfl, hi, hw⟩; subst w'; have hi0 : i < (0 : Int) := at_neg hi HX.out; clear hi)
      | fail)
    go_ret
    exact RDone.mk HE.out rfl (Out.refl _ _) HH.out.grew
  have HX : Hid (∃ f ∈ fs, f.nm = nm) := HS.2 h2
  obtain ⟨q, hq⟩ := Option.isSome_iff_exists.1 h2
  have HE : Hid (doRename p nm to = if isNm to = false then (7, p) else if p.fell then (11, p.fail) else if nm = to then (0, p.fail) else (0, { p.fail with fs := insP { q with nm := to } (delP to (delP nm (delP to p.fs))) })) := by
    show doRename p nm to = _
    simp only [doRename, hd, hq]
    rw [if_neg (by simp)]
  have HQ : Hid (lookP nm p.fs = some q) := hq
  have HG : Hid (Good p) := hg
  have hfl := refFails_any h.rd hg.arm
  have HP : Hid (p.fail.fs = p.fs) := pd_fail_fs p
  clear h2 HS hd hq
  by_cases h1 : isNm to = false
  · have HI : Hid (isNm to = false) := h1
    clear h h1
    subst hv
    go_enter Tryz.func77, Tryz.ntmps77
    go_wp2_with (first
      | (go_at_call 82; refine hat.mono ?_; rintro r w' ⟨i, rfl, hi, hw⟩; subst w'; have hi0 : (0 : Int) ≤ i := (by obtain ⟨j, rfl, -⟩ := at_pos hi HX.out; omega); clear hi hat)
      | (go_at_call 107; refine (refName_any to _ ht).mono ?_; rintro r w' ⟨rfl, hw⟩; subst w'; rw [HI.out])
      | fail)
    go_ret
    exact RDone.mk (by rw [HE.out, HI.out]; rfl) rfl (Out.refl _ _) HH.out.grew
  have HI : Hid (isNm to = true) := by show isNm to = true; simpa using h1
  clear h1
  cases hfe : p.fell with
  | true =>
    rw [hfe] at hfl
    have HFE : Hid (p.fell = true) := hfe
    clear h hfe
    subst hv
    go_enter Tryz.func77, Tryz.ntmps77
    go_wp2_with (first
      | (go_at_call 82; refine hat.mono ?_; rintro r w' ⟨i, rfl, hi, hw⟩; subst w'; have hi0 : (0 : Int) ≤ i := (by obtain ⟨j, rfl, -⟩ := at_pos hi HX.out; omega); clear hi hat)
      | (go_at_call 107; refine (refName_any to _ ht).mono ?_; rintro r w' ⟨rfl, hw⟩; subst w'; rw [HI.out])
      | (go_at_call 105; refine hfl.mono ?_; rintro r w1 ⟨rfl, hR1, hO1⟩; have hat1 := refAt_any hR1 nm; clear hfl)
      | fail)
    go_ret
    exact RDone.mk (by rw [HE.out, HI.out, HFE.out]; rfl) rfl (hO1.fit (X := S) HH.out.SB) (HH.out.step (hO1.fit (X := S) HH.out.SB) hR1 (fun g hg => .inl (HH.out.Sv g hg)) (fun f hf => .inl hf) (by rw [HP.out]; exact HH.out.lt0))
  | false =>
  rw [hfe] at hfl
  have HFE : Hid (p.fell = false) := hfe
  by_cases hnt : nm = to
  · have HNT : Hid (nm = to) := hnt
    subst hnt
    clear h hfe
    subst hv
    go_enter Tryz.func77, Tryz.ntmps77
    go_wp2_with (first
      | (go_at_call 82; refine hat.mono ?_; rintro r w' ⟨i, rfl, hi, hw⟩; subst w'; have hi0 : (0 : Int) ≤ i := (by obtain ⟨j, rfl, -⟩ := at_pos hi HX.out; omega); clear hi hat)
      | (go_at_call 107; refine (refName_any nm _ ht).mono ?_; rintro r w' ⟨rfl, hw⟩; subst w'; rw [HI.out])
      | (go_at_call 105; refine hfl.mono ?_; rintro r w1 ⟨rfl, hR1, hO1⟩; have hat1 := refAt_any hR1 nm; clear hfl)
      | fail)
    go_ret
    exact RDone.mk (by rw [HE.out, HI.out, HFE.out, if_neg (by simp), if_neg (by simp), if_pos (by simp)]) rfl (hO1.fit (X := S) HH.out.SB) (HH.out.step (hO1.fit (X := S) HH.out.SB) hR1 (fun g hg => .inl (HH.out.Sv g hg)) (fun f hf => .inl hf) (by rw [HP.out]; exact HH.out.lt0))
  have HNT : Hid (nm ≠ to) := hnt
  have hnt' : (nm == to) = false := by simpa using hnt
  have HE2 : Hid (doRename p nm to = (0, { p.fail with fs := insP { q with nm := to } (delP to (delP nm (delP to p.fs))) })) := by
    show doRename p nm to = _
    rw [HE.out, HI.out, HFE.out, if_neg (by simp), if_neg (by simp), if_neg hnt]
  have HNE : Hid (p.fail.fs.Pairwise (fun f g => f.nm ≠ g.nm)) := by show List.Pairwise _ _; rw [HP.out]; exact rise_ne HG.out.rise
  have HLN : Hid (fs.length ≤ 256) := h.rd.fw
  clear h hfe hnt HE
  subst hv
  by_cases hto : ∃ x ∈ fs, x.nm = to
  case neg =>
    have HAB2 : Hid (∀ x ∈ fs, x.nm ≠ to) := fun x hx e => hto ⟨x, hx, e⟩
    have HABS : Hid (∀ x ∈ p.fs, x.nm ≠ to) := says_no HH.out.rd.sy HAB2.out
    have hlt0 : l ≠ to := fun e => by
      rcases HH.out.lt0 with e2 | ⟨x, hx, e2⟩
      · exact isNm_ne HI.out (by rw [← e, e2])
      · exact HABS.out x hx (by rw [e2, e])
    have hlt1 : (l == to) = false := by simpa using hlt0
    by_cases hln : l = nm
    · have HLT : Hid (lateTo l nm to = to) := by show lateTo l nm to = to; unfold lateTo; rw [if_neg hlt0, if_pos hln]
      have hln2 : (l == nm) = true := by simpa using hln
      clear hto hlt0 hln
      go_enter Tryz.func77, Tryz.ntmps77
      go_wp2_with (first
        | (go_at_call 82; refine hat.mono ?_; rintro r w' ⟨i, rfl, hi, hw⟩; subst w'; have hi0 : (0 : Int) ≤ i := (by obtain ⟨j, rfl, -⟩ := at_pos hi HX.out; omega); clear hi hat)
        | (go_at_call 107; refine (refName_any to _ ht).mono ?_; rintro r w' ⟨rfl, hw⟩; subst w'; rw [HI.out])
        | (go_at_call 105; refine hfl.mono ?_; rintro r w1 ⟨rfl, hR1, hO1⟩; have hat1 := refAt_any hR1 nm; clear hfl)
        | (go_at_call 82; refine hat1.mono ?_; rintro r w' ⟨i, rfl, hi, hw⟩; subst w'; obtain ⟨j, rfl, hj, hjn⟩ := at_pos hi HX.out; obtain ⟨f, hf⟩ : ∃ f, fs.getD j nilFl = f := ⟨_, rfl⟩; have HF : Hid (fs.getD j nilFl = f) := hf; have HJN : Hid ((fs.getD j nilFl).nm = nm) := hjn; have hta := refTake hR1 hj f hf; clear hi hat1 hjn hf)
        | (go_at_call 106; refine hta.mono ?_; rintro r w2 ⟨rfl, v2, hb2, hf2, ho2, hn2⟩; clear hta; have hR2 := hR1.rem HNE.out hj HJN.out hb2 hf2 (fun f hf => hR1.la f (del_mem.1 hf).1); rw [HP.out] at hR2; have hB3 : Below w2.heap.size w2 (w2.alloc (.cells #[.string ⟨f.nm.toArray⟩, .slice f.a f.dat.length f.c, .int .i64 f.syn] 71)) := (Below.refl _ _).alloc (Nat.le_refl _) _; have hR3 := hR2.out (X := fun _ => False) (Out.of_below hB3) (fun h => h) (fun _ _ h => h) (fun _ _ _ _ h => h); have hat3 := refAt_any hR3 to; have y3 : (w2.alloc (.cells #[.string ⟨f.nm.toArray⟩, .slice f.a f.dat.length f.c, .int .i64 f.syn] 71)).cell? ⟨B, 3, none⟩ = some (.string ⟨l.toArray⟩) := hR3.cells.2.2.2.1; have y4 : (w2.alloc (.cells #[.string ⟨f.nm.toArray⟩, .slice f.a f.dat.length f.c, .int .i64 f.syn] 71)).frozen? ⟨B, 3, none⟩ = false := hR3.cells.2.2.2.2.2.2.2; have hBb : ¬ (w2.heap.size = B) := (by have := hR2.lt; omega); have hBb2 : ¬ (B = w2.heap.size) := (by have := hR2.lt; omega); have hR3' : RD 0 (w2.alloc (.cells #[.string ⟨f.nm.toArray⟩, .slice f.a f.dat.length f.c, .int .i64 f.syn] 71)) B { p.fail with fs := delP to (delP nm p.fs) } v2 (remF fs j) l := (by have e : delP to (delP nm p.fs) = delP nm p.fs := delP_none (fun x hx => HABS.out x (del_mem.1 hx).1); rw [e]; exact hR3); have hqs : q.says = f.says := (by obtain ⟨q', h1, h3, h4⟩ := look_at HH.out.rd.sy hj (rise_ne HG.out.rise); rw [HJN.out, HQ.out] at h1; cases h1; rw [h4, HF.out]); have hfm : f ∈ fs := (by rw [← HF.out]; exact getD_mem hj); have HPUT : Hid (∀ WF, Out (fun i => i = B ∨ i = w2.heap.size) (w2.alloc (.cells #[.string ⟨f.nm.toArray⟩, .slice f.a f.dat.length f.c, .int .i64 f.syn] 71)) WF → WF.heap[B]? = some (.cells #[v2, .int .i64 (p.fail.arm : Int), .bool p.fail.dn, .string ⟨(lateTo l nm to).toArray⟩] 30 (0, 0)) → Calls Tryz.prog 108 #[.pointer (some ⟨B, 0, none⟩), .agg #[.string ⟨to.toArray⟩, .slice f.a f.dat.length f.c, .int .i64 f.syn]] WF fun r w5 => r = .returned (.tuple #[]) ∧ RDone S w B (doRename p nm to) (.returned (.int .i64 0)) w5) := (fun WF hO hd => ren_put HH.out HG.out HQ.out hqs HNT.out HI.out hR3' ((hO1.trans ho2 (fun i hi _ => hi)).trans (Out.of_below (X := (· = B)) hB3) (fun i hi _ => hi)) (Nat.le_trans hO1.size ho2.size) (fun g hg e => (by have := (hR2.fi.row.lt g hg).2; omega)) (by have h8 := rem_len hj; have h9 := HLN.out; omega) (fun x hx => rem_mem hx) hfm HE2.out hO hd); have HHD : Hid ((w2.alloc (.cells #[.string ⟨f.nm.toArray⟩, .slice f.a f.dat.length f.c, .int .i64 f.syn] 71)).heap[B]? = some (.cells #[v2, .int .i64 (p.fail.arm : Int), .bool p.fail.dn, .string ⟨l.toArray⟩] 30 (0, 0))) := hR3.hd; clear hqs hfm hR3' hR3 hR2 hb2 hf2 hn2 HJN HF)
        | (go_at_call 82; refine hat3.mono ?_; rintro r w' ⟨i3, rfl, hi3, hw⟩; subst w'; have hi3' : i3 < (0 : Int) := at_neg hi3 (fun x hx => HAB2.out x (rem_mem hx)); clear hi3 hat3)
        | (go_at_call 108; refine (HPUT.out _ (Out.put (Out.put (Out.refl _ _) (.inl rfl)) (.inr rfl)) (by rw [HLT.out]; exact (Below.heap_setCell _ _ _ _ (fun e => hBb e.symm)).trans (by simpa using heap_set HHD.out 3 (.string ⟨to.toArray⟩)))).mono ?_; rintro r w5 ⟨rfl, hdone⟩)
        | fail)
      go_ret
      exact hdone
    · have HLT : Hid (lateTo l nm to = l) := by show lateTo l nm to = l; unfold lateTo; rw [if_neg hlt0, if_neg hln]
      have hln2 : (l == nm) = false := by simpa using hln
      clear hto hlt0 hln
      go_enter Tryz.func77, Tryz.ntmps77
      go_wp2_with (first
        | (go_at_call 82; refine hat.mono ?_; rintro r w' ⟨i, rfl, hi, hw⟩; subst w'; have hi0 : (0 : Int) ≤ i := (by obtain ⟨j, rfl, -⟩ := at_pos hi HX.out; omega); clear hi hat)
        | (go_at_call 107; refine (refName_any to _ ht).mono ?_; rintro r w' ⟨rfl, hw⟩; subst w'; rw [HI.out])
        | (go_at_call 105; refine hfl.mono ?_; rintro r w1 ⟨rfl, hR1, hO1⟩; have hat1 := refAt_any hR1 nm; clear hfl)
        | (go_at_call 82; refine hat1.mono ?_; rintro r w' ⟨i, rfl, hi, hw⟩; subst w'; obtain ⟨j, rfl, hj, hjn⟩ := at_pos hi HX.out; obtain ⟨f, hf⟩ : ∃ f, fs.getD j nilFl = f := ⟨_, rfl⟩; have HF : Hid (fs.getD j nilFl = f) := hf; have HJN : Hid ((fs.getD j nilFl).nm = nm) := hjn; have hta := refTake hR1 hj f hf; clear hi hat1 hjn hf)
        | (go_at_call 106; refine hta.mono ?_; rintro r w2 ⟨rfl, v2, hb2, hf2, ho2, hn2⟩; clear hta; have hR2 := hR1.rem HNE.out hj HJN.out hb2 hf2 (fun f hf => hR1.la f (del_mem.1 hf).1); rw [HP.out] at hR2; have hB3 : Below w2.heap.size w2 (w2.alloc (.cells #[.string ⟨f.nm.toArray⟩, .slice f.a f.dat.length f.c, .int .i64 f.syn] 71)) := (Below.refl _ _).alloc (Nat.le_refl _) _; have hR3 := hR2.out (X := fun _ => False) (Out.of_below hB3) (fun h => h) (fun _ _ h => h) (fun _ _ _ _ h => h); have hat3 := refAt_any hR3 to; have y3 : (w2.alloc (.cells #[.string ⟨f.nm.toArray⟩, .slice f.a f.dat.length f.c, .int .i64 f.syn] 71)).cell? ⟨B, 3, none⟩ = some (.string ⟨l.toArray⟩) := hR3.cells.2.2.2.1; have y4 : (w2.alloc (.cells #[.string ⟨f.nm.toArray⟩, .slice f.a f.dat.length f.c, .int .i64 f.syn] 71)).frozen? ⟨B, 3, none⟩ = false := hR3.cells.2.2.2.2.2.2.2; have hBb : ¬ (w2.heap.size = B) := (by have := hR2.lt; omega); have hBb2 : ¬ (B = w2.heap.size) := (by have := hR2.lt; omega); have hR3' : RD 0 (w2.alloc (.cells #[.string ⟨f.nm.toArray⟩, .slice f.a f.dat.length f.c, .int .i64 f.syn] 71)) B { p.fail with fs := delP to (delP nm p.fs) } v2 (remF fs j) l := (by have e : delP to (delP nm p.fs) = delP nm p.fs := delP_none (fun x hx => HABS.out x (del_mem.1 hx).1); rw [e]; exact hR3); have hqs : q.says = f.says := (by obtain ⟨q', h1, h3, h4⟩ := look_at HH.out.rd.sy hj (rise_ne HG.out.rise); rw [HJN.out, HQ.out] at h1; cases h1; rw [h4, HF.out]); have hfm : f ∈ fs := (by rw [← HF.out]; exact getD_mem hj); have HPUT : Hid (∀ WF, Out (fun i => i = B ∨ i = w2.heap.size) (w2.alloc (.cells #[.string ⟨f.nm.toArray⟩, .slice f.a f.dat.length f.c, .int .i64 f.syn] 71)) WF → WF.heap[B]? = some (.cells #[v2, .int .i64 (p.fail.arm : Int), .bool p.fail.dn, .string ⟨(lateTo l nm to).toArray⟩] 30 (0, 0)) → Calls Tryz.prog 108 #[.pointer (some ⟨B, 0, none⟩), .agg #[.string ⟨to.toArray⟩, .slice f.a f.dat.length f.c, .int .i64 f.syn]] WF fun r w5 => r = .returned (.tuple #[]) ∧ RDone S w B (doRename p nm to) (.returned (.int .i64 0)) w5) := (fun WF hO hd => ren_put HH.out HG.out HQ.out hqs HNT.out HI.out hR3' ((hO1.trans ho2 (fun i hi _ => hi)).trans (Out.of_below (X := (· = B)) hB3) (fun i hi _ => hi)) (Nat.le_trans hO1.size ho2.size) (fun g hg e => (by have := (hR2.fi.row.lt g hg).2; omega)) (by have h8 := rem_len hj; have h9 := HLN.out; omega) (fun x hx => rem_mem hx) hfm HE2.out hO hd); have HHD : Hid ((w2.alloc (.cells #[.string ⟨f.nm.toArray⟩, .slice f.a f.dat.length f.c, .int .i64 f.syn] 71)).heap[B]? = some (.cells #[v2, .int .i64 (p.fail.arm : Int), .bool p.fail.dn, .string ⟨l.toArray⟩] 30 (0, 0))) := hR3.hd; clear hqs hfm hR3' hR3 hR2 hb2 hf2 hn2 HJN HF)
        | (go_at_call 82; refine hat3.mono ?_; rintro r w' ⟨i3, rfl, hi3, hw⟩; subst w'; have hi3' : i3 < (0 : Int) := at_neg hi3 (fun x hx => HAB2.out x (rem_mem hx)); clear hi3 hat3)
        | (go_at_call 108; refine (HPUT.out _ (Out.swap (.inr rfl)) (by rw [HLT.out]; exact (heap_alloc_ne _ hBb2).trans ((heap_alloc_ne _ hBb2).symm.trans HHD.out))).mono ?_; rintro r w5 ⟨rfl, hdone⟩)
        | fail)
      go_ret
      exact hdone
  have HTO : Hid (∃ x ∈ fs, x.nm = to) := hto
  have hnn : (([] : List UInt8) == nm) = false := by
    have h9 := isNm_ne (HG.out.nms q (List.mem_of_find?_eq_some HQ.out))
    rw [show q.nm = nm from by simpa using List.find?_some HQ.out] at h9
    simpa using fun e : [] = nm => h9 e.symm
  by_cases hl1 : l = to
  · have HLT : Hid (lateTo l nm to = []) := by show lateTo l nm to = []; unfold lateTo; rw [if_pos hl1]
    have hl2 : (l == to) = true := by simpa using hl1
    clear hto hl1
    go_enter Tryz.func77, Tryz.ntmps77
    go_wp2_with (first
      | (go_at_call 82; refine hat.mono ?_; rintro r w' ⟨i, rfl, hi, hw⟩; subst w'; have hi0 : (0 : Int) ≤ i := (by obtain ⟨j, rfl, -⟩ := at_pos hi HX.out; omega); clear hi hat)
      | (go_at_call 107; refine (refName_any to _ ht).mono ?_; rintro r w' ⟨rfl, hw⟩; subst w'; rw [HI.out])
      | (go_at_call 105; refine hfl.mono ?_; rintro r w1 ⟨rfl, hR1, hO1⟩; have hat1 := refAt_any hR1 nm; clear hfl)
      | (go_at_call 82; refine hat1.mono ?_; rintro r w' ⟨i, rfl, hi, hw⟩; subst w'; obtain ⟨j, rfl, hj, hjn⟩ := at_pos hi HX.out; obtain ⟨f, hf⟩ : ∃ f, fs.getD j nilFl = f := ⟨_, rfl⟩; have HF : Hid (fs.getD j nilFl = f) := hf; have HJN : Hid ((fs.getD j nilFl).nm = nm) := hjn; have hta := refTake hR1 hj f hf; clear hi hat1 hjn hf)
      | (go_at_call 106; refine hta.mono ?_; rintro r w2 ⟨rfl, v2, hb2, hf2, ho2, hn2⟩; clear hta; have hR2 := hR1.rem HNE.out hj HJN.out hb2 hf2 (fun f hf => hR1.la f (del_mem.1 hf).1); rw [HP.out] at hR2; have hB3 : Below w2.heap.size w2 (w2.alloc (.cells #[.string ⟨f.nm.toArray⟩, .slice f.a f.dat.length f.c, .int .i64 f.syn] 71)) := (Below.refl _ _).alloc (Nat.le_refl _) _; have hR3 := hR2.out (X := fun _ => False) (Out.of_below hB3) (fun h => h) (fun _ _ h => h) (fun _ _ _ _ h => h); have hat3 := refAt_any hR3 to; have y3 : (w2.alloc (.cells #[.string ⟨f.nm.toArray⟩, .slice f.a f.dat.length f.c, .int .i64 f.syn] 71)).cell? ⟨B, 3, none⟩ = some (.string ⟨l.toArray⟩) := hR3.cells.2.2.2.1; have y4 : (w2.alloc (.cells #[.string ⟨f.nm.toArray⟩, .slice f.a f.dat.length f.c, .int .i64 f.syn] 71)).frozen? ⟨B, 3, none⟩ = false := hR3.cells.2.2.2.2.2.2.2; have hBb : ¬ (w2.heap.size = B) := (by have := hR2.lt; omega); have hBb2 : ¬ (B = w2.heap.size) := (by have := hR2.lt; omega); have HX3 : Hid (∃ x ∈ remF fs j, x.nm = to) := (by obtain ⟨x, hx, e⟩ := HTO.out; exact ⟨x, rem_in hj hx (by rw [e, HJN.out]; exact fun e2 => HNT.out e2.symm), e⟩); have hqs : q.says = f.says := (by obtain ⟨q', h1, h3, h4⟩ := look_at HH.out.rd.sy hj (rise_ne HG.out.rise); rw [HJN.out, HQ.out] at h1; cases h1; rw [h4, HF.out]); have hfm : f ∈ fs := (by rw [← HF.out]; exact getD_mem hj); have HQS : Hid (q.says = f.says) := hqs; have HFM : Hid (f ∈ fs) := hfm; have HR3 : Hid (RD 0 (w2.alloc (.cells #[.string ⟨f.nm.toArray⟩, .slice f.a f.dat.length f.c, .int .i64 f.syn] 71)) B { p.fail with fs := delP nm p.fs } v2 (remF fs j) l) := hR3; clear hqs hfm HF hR2 hb2 hf2 hn2 hR3)
      | (go_at_call 82; refine hat3.mono ?_; rintro r w' ⟨i3, rfl, hi3, hw⟩; subst w'; have hi3' : (0 : Int) ≤ i3 := (by obtain ⟨j9, rfl, -⟩ := at_pos hi3 HX3.out; omega); have hat4 := hat3; clear hi3 hat3)
      | (go_at_call 82; refine hat4.mono ?_; rintro r w' ⟨i4, rfl, hi4, hw⟩; subst w'; obtain ⟨j3, rfl, hj3, hjn3⟩ := at_pos hi4 HX3.out; have hta3 := refTake HR3.out hj3 _ rfl; have HJ3 : Hid ((List.getD (remF fs j) j3 nilFl).nm = to) := hjn3; clear hi4 hat4 hjn3)
      | (go_at_call 106; refine hta3.mono ?_; rintro r w4 ⟨rfl, v4, hb4, hf4, ho4, hn4⟩; clear hta3; have hR4 := HR3.out.rem (ne_pair (rise_ne HG.out.rise) nm) hj3 HJ3.out hb4 hf4 (fun f hf => HR3.out.la f (del_mem.1 hf).1); have z3 : w4.cell? ⟨B, 3, none⟩ = some (.string ⟨l.toArray⟩) := hR4.cells.2.2.2.1; have z4 : w4.frozen? ⟨B, 3, none⟩ = false := hR4.cells.2.2.2.2.2.2.2; have hfb : w4.heap[w2.heap.size]? = some (.cells #[.string ⟨f.nm.toArray⟩, .slice f.a f.dat.length f.c, .int .i64 f.syn] 71 (0, 0)) := (ho4.block w2.heap.size (by simp) hBb).trans (heap_alloc_new w2 _); have g0 : w4.cell? ⟨w2.heap.size, 0, none⟩ = some (.string ⟨f.nm.toArray⟩) := (by simp [World.cell?, hfb]); have g1 : w4.cell? ⟨w2.heap.size, 1, none⟩ = some (.slice f.a f.dat.length f.c) := (by simp [World.cell?, hfb]); have g2 : w4.cell? ⟨w2.heap.size, 2, none⟩ = some (.int .i64 f.syn) := (by simp [World.cell?, hfb]); have g3 : w4.frozen? ⟨w2.heap.size, 0, none⟩ = false := (by simp [World.frozen?, hfb]); have HPUT : Hid (∀ WF, Out (fun i => i = B ∨ i = w2.heap.size) w4 WF → WF.heap[B]? = some (.cells #[v4, .int .i64 (p.fail.arm : Int), .bool p.fail.dn, .string ⟨(lateTo l nm to).toArray⟩] 30 (0, 0)) → Calls Tryz.prog 108 #[.pointer (some ⟨B, 0, none⟩), .agg #[.string ⟨to.toArray⟩, .slice f.a f.dat.length f.c, .int .i64 f.syn]] WF fun r w5 => r = .returned (.tuple #[]) ∧ RDone S w B (doRename p nm to) (.returned (.int .i64 0)) w5) := (fun WF hO hd => ren_put HH.out HG.out HQ.out HQS.out HNT.out HI.out hR4 (((hO1.trans ho2 (fun i hi _ => hi)).trans (Out.of_below (X := (· = B)) hB3) (fun i hi _ => hi)).trans ho4 (fun i hi _ => hi)) (Nat.le_trans hO1.size ho2.size) (fun g hg e => (by have h9 := hn4 g hg; rw [World.size_alloc] at h9; omega)) (by have h7 := rem_len hj3; have h8 := rem_len hj; have h9 := HLN.out; omega) (fun x hx => rem_mem (rem_mem hx)) HFM.out HE2.out hO hd); have HHD : Hid (w4.heap[B]? = some (.cells #[v4, .int .i64 (p.fail.arm : Int), .bool p.fail.dn, .string ⟨l.toArray⟩] 30 (0, 0))) := hR4.hd; clear hR4 hb4 hf4 hn4 hfb)
      | (go_at_call 108; refine (HPUT.out _ (Out.put (Out.put (Out.refl _ _) (.inl rfl)) (.inr rfl)) (by rw [HLT.out]; exact (Below.heap_setCell _ _ _ _ (fun e => hBb e.symm)).trans (by simpa using heap_set HHD.out 3 (.string ⟨([] : List UInt8).toArray⟩)))).mono ?_; rintro r w5 ⟨rfl, hdone⟩)
      | fail)
    go_ret
    exact hdone
  have hl2 : (l == to) = false := by simpa using hl1
  by_cases hln : l = nm
  · have HLT : Hid (lateTo l nm to = to) := by show lateTo l nm to = to; unfold lateTo; rw [if_neg hl1, if_pos hln]
    have hln2 : (l == nm) = true := by simpa using hln
    clear hto hl1 hln
    go_enter Tryz.func77, Tryz.ntmps77
    go_wp2_with (first
      | (go_at_call 82; refine hat.mono ?_; rintro r w' ⟨i, rfl, hi, hw⟩; subst w'; have hi0 : (0 : Int) ≤ i := (by obtain ⟨j, rfl, -⟩ := at_pos hi HX.out; omega); clear hi hat)
      | (go_at_call 107; refine (refName_any to _ ht).mono ?_; rintro r w' ⟨rfl, hw⟩; subst w'; rw [HI.out])
      | (go_at_call 105; refine hfl.mono ?_; rintro r w1 ⟨rfl, hR1, hO1⟩; have hat1 := refAt_any hR1 nm; clear hfl)
      | (go_at_call 82; refine hat1.mono ?_; rintro r w' ⟨i, rfl, hi, hw⟩; subst w'; obtain ⟨j, rfl, hj, hjn⟩ := at_pos hi HX.out; obtain ⟨f, hf⟩ : ∃ f, fs.getD j nilFl = f := ⟨_, rfl⟩; have HF : Hid (fs.getD j nilFl = f) := hf; have HJN : Hid ((fs.getD j nilFl).nm = nm) := hjn; have hta := refTake hR1 hj f hf; clear hi hat1 hjn hf)
      | (go_at_call 106; refine hta.mono ?_; rintro r w2 ⟨rfl, v2, hb2, hf2, ho2, hn2⟩; clear hta; have hR2 := hR1.rem HNE.out hj HJN.out hb2 hf2 (fun f hf => hR1.la f (del_mem.1 hf).1); rw [HP.out] at hR2; have hB3 : Below w2.heap.size w2 (w2.alloc (.cells #[.string ⟨f.nm.toArray⟩, .slice f.a f.dat.length f.c, .int .i64 f.syn] 71)) := (Below.refl _ _).alloc (Nat.le_refl _) _; have hR3 := hR2.out (X := fun _ => False) (Out.of_below hB3) (fun h => h) (fun _ _ h => h) (fun _ _ _ _ h => h); have hat3 := refAt_any hR3 to; have y3 : (w2.alloc (.cells #[.string ⟨f.nm.toArray⟩, .slice f.a f.dat.length f.c, .int .i64 f.syn] 71)).cell? ⟨B, 3, none⟩ = some (.string ⟨l.toArray⟩) := hR3.cells.2.2.2.1; have y4 : (w2.alloc (.cells #[.string ⟨f.nm.toArray⟩, .slice f.a f.dat.length f.c, .int .i64 f.syn] 71)).frozen? ⟨B, 3, none⟩ = false := hR3.cells.2.2.2.2.2.2.2; have hBb : ¬ (w2.heap.size = B) := (by have := hR2.lt; omega); have hBb2 : ¬ (B = w2.heap.size) := (by have := hR2.lt; omega); have HX3 : Hid (∃ x ∈ remF fs j, x.nm = to) := (by obtain ⟨x, hx, e⟩ := HTO.out; exact ⟨x, rem_in hj hx (by rw [e, HJN.out]; exact fun e2 => HNT.out e2.symm), e⟩); have hqs : q.says = f.says := (by obtain ⟨q', h1, h3, h4⟩ := look_at HH.out.rd.sy hj (rise_ne HG.out.rise); rw [HJN.out, HQ.out] at h1; cases h1; rw [h4, HF.out]); have hfm : f ∈ fs := (by rw [← HF.out]; exact getD_mem hj); have HQS : Hid (q.says = f.says) := hqs; have HFM : Hid (f ∈ fs) := hfm; have HR3 : Hid (RD 0 (w2.alloc (.cells #[.string ⟨f.nm.toArray⟩, .slice f.a f.dat.length f.c, .int .i64 f.syn] 71)) B { p.fail with fs := delP nm p.fs } v2 (remF fs j) l) := hR3; clear hqs hfm HF hR2 hb2 hf2 hn2 hR3)
      | (go_at_call 82; refine hat3.mono ?_; rintro r w' ⟨i3, rfl, hi3, hw⟩; subst w'; have hi3' : (0 : Int) ≤ i3 := (by obtain ⟨j9, rfl, -⟩ := at_pos hi3 HX3.out; omega); have hat4 := hat3; clear hi3 hat3)
      | (go_at_call 82; refine hat4.mono ?_; rintro r w' ⟨i4, rfl, hi4, hw⟩; subst w'; obtain ⟨j3, rfl, hj3, hjn3⟩ := at_pos hi4 HX3.out; have hta3 := refTake HR3.out hj3 _ rfl; have HJ3 : Hid ((List.getD (remF fs j) j3 nilFl).nm = to) := hjn3; clear hi4 hat4 hjn3)
      | (go_at_call 106; refine hta3.mono ?_; rintro r w4 ⟨rfl, v4, hb4, hf4, ho4, hn4⟩; clear hta3; have hR4 := HR3.out.rem (ne_pair (rise_ne HG.out.rise) nm) hj3 HJ3.out hb4 hf4 (fun f hf => HR3.out.la f (del_mem.1 hf).1); have z3 : w4.cell? ⟨B, 3, none⟩ = some (.string ⟨l.toArray⟩) := hR4.cells.2.2.2.1; have z4 : w4.frozen? ⟨B, 3, none⟩ = false := hR4.cells.2.2.2.2.2.2.2; have hfb : w4.heap[w2.heap.size]? = some (.cells #[.string ⟨f.nm.toArray⟩, .slice f.a f.dat.length f.c, .int .i64 f.syn] 71 (0, 0)) := (ho4.block w2.heap.size (by simp) hBb).trans (heap_alloc_new w2 _); have g0 : w4.cell? ⟨w2.heap.size, 0, none⟩ = some (.string ⟨f.nm.toArray⟩) := (by simp [World.cell?, hfb]); have g1 : w4.cell? ⟨w2.heap.size, 1, none⟩ = some (.slice f.a f.dat.length f.c) := (by simp [World.cell?, hfb]); have g2 : w4.cell? ⟨w2.heap.size, 2, none⟩ = some (.int .i64 f.syn) := (by simp [World.cell?, hfb]); have g3 : w4.frozen? ⟨w2.heap.size, 0, none⟩ = false := (by simp [World.frozen?, hfb]); have HPUT : Hid (∀ WF, Out (fun i => i = B ∨ i = w2.heap.size) w4 WF → WF.heap[B]? = some (.cells #[v4, .int .i64 (p.fail.arm : Int), .bool p.fail.dn, .string ⟨(lateTo l nm to).toArray⟩] 30 (0, 0)) → Calls Tryz.prog 108 #[.pointer (some ⟨B, 0, none⟩), .agg #[.string ⟨to.toArray⟩, .slice f.a f.dat.length f.c, .int .i64 f.syn]] WF fun r w5 => r = .returned (.tuple #[]) ∧ RDone S w B (doRename p nm to) (.returned (.int .i64 0)) w5) := (fun WF hO hd => ren_put HH.out HG.out HQ.out HQS.out HNT.out HI.out hR4 (((hO1.trans ho2 (fun i hi _ => hi)).trans (Out.of_below (X := (· = B)) hB3) (fun i hi _ => hi)).trans ho4 (fun i hi _ => hi)) (Nat.le_trans hO1.size ho2.size) (fun g hg e => (by have h9 := hn4 g hg; rw [World.size_alloc] at h9; omega)) (by have h7 := rem_len hj3; have h8 := rem_len hj; have h9 := HLN.out; omega) (fun x hx => rem_mem (rem_mem hx)) HFM.out HE2.out hO hd); have HHD : Hid (w4.heap[B]? = some (.cells #[v4, .int .i64 (p.fail.arm : Int), .bool p.fail.dn, .string ⟨l.toArray⟩] 30 (0, 0))) := hR4.hd; clear hR4 hb4 hf4 hn4 hfb)
      | (go_at_call 108; refine (HPUT.out _ (Out.put (Out.put (Out.refl _ _) (.inl rfl)) (.inr rfl)) (by rw [HLT.out]; exact (Below.heap_setCell _ _ _ _ (fun e => hBb e.symm)).trans (by simpa using heap_set HHD.out 3 (.string ⟨to.toArray⟩)))).mono ?_; rintro r w5 ⟨rfl, hdone⟩)
      | fail)
    go_ret
    exact hdone
  · have HLT : Hid (lateTo l nm to = l) := by show lateTo l nm to = l; unfold lateTo; rw [if_neg hl1, if_neg hln]
    have hln2 : (l == nm) = false := by simpa using hln
    clear hto hl1 hln
    go_enter Tryz.func77, Tryz.ntmps77
    go_wp2_with (first
      | (go_at_call 82; refine hat.mono ?_; rintro r w' ⟨i, rfl, hi, hw⟩; subst w'; have hi0 : (0 : Int) ≤ i := (by obtain ⟨j, rfl, -⟩ := at_pos hi HX.out; omega); clear hi hat)
      | (go_at_call 107; refine (refName_any to _ ht).mono ?_; rintro r w' ⟨rfl, hw⟩; subst w'; rw [HI.out])
      | (go_at_call 105; refine hfl.mono ?_; rintro r w1 ⟨rfl, hR1, hO1⟩; have hat1 := refAt_any hR1 nm; clear hfl)
      | (go_at_call 82; refine hat1.mono ?_; rintro r w' ⟨i, rfl, hi, hw⟩; subst w'; obtain ⟨j, rfl, hj, hjn⟩ := at_pos hi HX.out; obtain ⟨f, hf⟩ : ∃ f, fs.getD j nilFl = f := ⟨_, rfl⟩; have HF : Hid (fs.getD j nilFl = f) := hf; have HJN : Hid ((fs.getD j nilFl).nm = nm) := hjn; have hta := refTake hR1 hj f hf; clear hi hat1 hjn hf)
      | (go_at_call 106; refine hta.mono ?_; rintro r w2 ⟨rfl, v2, hb2, hf2, ho2, hn2⟩; clear hta; have hR2 := hR1.rem HNE.out hj HJN.out hb2 hf2 (fun f hf => hR1.la f (del_mem.1 hf).1); rw [HP.out] at hR2; have hB3 : Below w2.heap.size w2 (w2.alloc (.cells #[.string ⟨f.nm.toArray⟩, .slice f.a f.dat.length f.c, .int .i64 f.syn] 71)) := (Below.refl _ _).alloc (Nat.le_refl _) _; have hR3 := hR2.out (X := fun _ => False) (Out.of_below hB3) (fun h => h) (fun _ _ h => h) (fun _ _ _ _ h => h); have hat3 := refAt_any hR3 to; have y3 : (w2.alloc (.cells #[.string ⟨f.nm.toArray⟩, .slice f.a f.dat.length f.c, .int .i64 f.syn] 71)).cell? ⟨B, 3, none⟩ = some (.string ⟨l.toArray⟩) := hR3.cells.2.2.2.1; have y4 : (w2.alloc (.cells #[.string ⟨f.nm.toArray⟩, .slice f.a f.dat.length f.c, .int .i64 f.syn] 71)).frozen? ⟨B, 3, none⟩ = false := hR3.cells.2.2.2.2.2.2.2; have hBb : ¬ (w2.heap.size = B) := (by have := hR2.lt; omega); have hBb2 : ¬ (B = w2.heap.size) := (by have := hR2.lt; omega); have HX3 : Hid (∃ x ∈ remF fs j, x.nm = to) := (by obtain ⟨x, hx, e⟩ := HTO.out; exact ⟨x, rem_in hj hx (by rw [e, HJN.out]; exact fun e2 => HNT.out e2.symm), e⟩); have hqs : q.says = f.says := (by obtain ⟨q', h1, h3, h4⟩ := look_at HH.out.rd.sy hj (rise_ne HG.out.rise); rw [HJN.out, HQ.out] at h1; cases h1; rw [h4, HF.out]); have hfm : f ∈ fs := (by rw [← HF.out]; exact getD_mem hj); have HQS : Hid (q.says = f.says) := hqs; have HFM : Hid (f ∈ fs) := hfm; have HR3 : Hid (RD 0 (w2.alloc (.cells #[.string ⟨f.nm.toArray⟩, .slice f.a f.dat.length f.c, .int .i64 f.syn] 71)) B { p.fail with fs := delP nm p.fs } v2 (remF fs j) l) := hR3; clear hqs hfm HF hR2 hb2 hf2 hn2 hR3)
      | (go_at_call 82; refine hat3.mono ?_; rintro r w' ⟨i3, rfl, hi3, hw⟩; subst w'; have hi3' : (0 : Int) ≤ i3 := (by obtain ⟨j9, rfl, -⟩ := at_pos hi3 HX3.out; omega); have hat4 := hat3; clear hi3 hat3)
      | (go_at_call 82; refine hat4.mono ?_; rintro r w' ⟨i4, rfl, hi4, hw⟩; subst w'; obtain ⟨j3, rfl, hj3, hjn3⟩ := at_pos hi4 HX3.out; have hta3 := refTake HR3.out hj3 _ rfl; have HJ3 : Hid ((List.getD (remF fs j) j3 nilFl).nm = to) := hjn3; clear hi4 hat4 hjn3)
      | (go_at_call 106; refine hta3.mono ?_; rintro r w4 ⟨rfl, v4, hb4, hf4, ho4, hn4⟩; clear hta3; have hR4 := HR3.out.rem (ne_pair (rise_ne HG.out.rise) nm) hj3 HJ3.out hb4 hf4 (fun f hf => HR3.out.la f (del_mem.1 hf).1); have z3 : w4.cell? ⟨B, 3, none⟩ = some (.string ⟨l.toArray⟩) := hR4.cells.2.2.2.1; have z4 : w4.frozen? ⟨B, 3, none⟩ = false := hR4.cells.2.2.2.2.2.2.2; have hfb : w4.heap[w2.heap.size]? = some (.cells #[.string ⟨f.nm.toArray⟩, .slice f.a f.dat.length f.c, .int .i64 f.syn] 71 (0, 0)) := (ho4.block w2.heap.size (by simp) hBb).trans (heap_alloc_new w2 _); have g0 : w4.cell? ⟨w2.heap.size, 0, none⟩ = some (.string ⟨f.nm.toArray⟩) := (by simp [World.cell?, hfb]); have g1 : w4.cell? ⟨w2.heap.size, 1, none⟩ = some (.slice f.a f.dat.length f.c) := (by simp [World.cell?, hfb]); have g2 : w4.cell? ⟨w2.heap.size, 2, none⟩ = some (.int .i64 f.syn) := (by simp [World.cell?, hfb]); have g3 : w4.frozen? ⟨w2.heap.size, 0, none⟩ = false := (by simp [World.frozen?, hfb]); have HPUT : Hid (∀ WF, Out (fun i => i = B ∨ i = w2.heap.size) w4 WF → WF.heap[B]? = some (.cells #[v4, .int .i64 (p.fail.arm : Int), .bool p.fail.dn, .string ⟨(lateTo l nm to).toArray⟩] 30 (0, 0)) → Calls Tryz.prog 108 #[.pointer (some ⟨B, 0, none⟩), .agg #[.string ⟨to.toArray⟩, .slice f.a f.dat.length f.c, .int .i64 f.syn]] WF fun r w5 => r = .returned (.tuple #[]) ∧ RDone S w B (doRename p nm to) (.returned (.int .i64 0)) w5) := (fun WF hO hd => ren_put HH.out HG.out HQ.out HQS.out HNT.out HI.out hR4 (((hO1.trans ho2 (fun i hi _ => hi)).trans (Out.of_below (X := (· = B)) hB3) (fun i hi _ => hi)).trans ho4 (fun i hi _ => hi)) (Nat.le_trans hO1.size ho2.size) (fun g hg e => (by have h9 := hn4 g hg; rw [World.size_alloc] at h9; omega)) (by have h7 := rem_len hj3; have h8 := rem_len hj; have h9 := HLN.out; omega) (fun x hx => rem_mem (rem_mem hx)) HFM.out HE2.out hO hd); have HHD : Hid (w4.heap[B]? = some (.cells #[v4, .int .i64 (p.fail.arm : Int), .bool p.fail.dn, .string ⟨l.toArray⟩] 30 (0, 0))) := hR4.hd; clear hR4 hb4 hf4 hn4 hfb)
      | (go_at_call 108; refine (HPUT.out _ (Out.put (Out.refl _ _) (.inr rfl)) (by rw [HLT.out]; exact (Below.heap_setCell _ _ _ _ (fun e => hBb e.symm)).trans HHD.out)).mono ?_; rintro r w5 ⟨rfl, hdone⟩)
      | fail)
    go_ret
    exact hdone
end Go.Proofs.YtadajbdmlmickaaGreatDoor
namespace Go.Proofs.YtadajbdmlmickaaGreatDoor
open Go.RowKit Go.Shelf
set_option linter.unusedVariables false

def cutD (nm : List UInt8) (n : Nat) (f : PF) : PF := if f.nm == nm then { f with dat := f.dat.take n } else f
def cutS (nm : List UInt8) (n : Nat) (f : PF) : PF := if f.nm == nm then { f with syn := min f.syn n } else f
theorem cut_eq (ps : List PF) (nm : List UInt8) (n : Nat) : (ps.map (cutD nm n)).map (cutS nm n) = ps.map (cutP nm n) := by
  rw [List.map_map]
  refine List.map_congr_left fun q _ => ?_
  show cutS nm n (cutD nm n q) = cutP nm n q
  unfold cutS cutD cutP
  by_cases h : (q.nm == nm) = true
  · simp [h]
  · simp [h]
theorem cutD_ne (nm : List UInt8) (n : Nat) {ps : List PF} (h : ps.Pairwise (fun f g => f.nm ≠ g.nm)) : (ps.map (cutD nm n)).Pairwise (fun f g => f.nm ≠ g.nm) := by
  rw [List.pairwise_map]
  refine h.imp fun {f g} hne => ?_
  have e : ∀ q, (cutD nm n q).nm = q.nm := fun q => by unfold cutD; split <;> rfl
  rw [e, e]; exact hne
theorem getD_set {fs : List Fl} {j : Nat} (hj : j < fs.length) (f : Fl) : (fs.set j f).getD j nilFl = f := by
  rw [List.getD_eq_getElem?_getD, List.getElem?_set_self hj]; rfl
/-- A file is cut. -/
theorem RD.cut {w w4 : World} {B g cap j : Nat} {p : PD} {fs : List Fl} {l nm dat : List UInt8} {a : Option Addr} {c n : Nat} {f : Fl} {s : Int} (h : RD 0 w B p (.slice (some ⟨g, 0, none⟩) fs.length cap) fs l) (hgB : g ≠ B) (hr : p.fs.Pairwise (fun f g => f.nm ≠ g.nm)) (hj : j < fs.length) (hf : fs.getD j nilFl = f) (hnm : f.nm = nm) (hB4 : Below w.heap.size w w4) (hO : Ow 0 w4 (.slice a dat.length c) dat) (hd : dat = f.dat.take n) (hs : s = min f.syn (n : Int)) :
    RD 0 ((w4.setCell ⟨g, j * 3 + 1, none⟩ (.slice a dat.length c)).setCell ⟨g, j * 3 + 2, none⟩ (.int .i64 s)) B { p with fs := p.fs.map (cutP nm n) } (.slice (some ⟨g, 0, none⟩) fs.length cap) (fs.set j ⟨f.nm, a, c, dat, s⟩) l := by
  subst hf
  have h4 := h.out (X := fun _ => False) (Out.of_below hB4) (fun h => h) (fun _ _ h => h) (fun _ _ _ _ h => h)
  have hlen : dat.length ≤ (fs.getD j nilFl).dat.length := by rw [hd]; simp only [List.length_take]; omega
  have h5 := RD.put1 (nm := nm) (dat := dat) (a := a) (c := c) h4 hgB hr hj hnm hO (cutD nm n) (fun q hq => by unfold cutD; rw [if_neg (by simpa using hq)]) (fun q hq e => by
      have hq1 : q.nm = nm := by simp only [Fl.says, PF.says, Prod.mk.injEq] at e; rw [e.1, hnm]
      simp only [Fl.says, PF.says, Prod.mk.injEq] at e
      unfold cutD
      rw [if_pos (by simpa using hq1)]
      simp only [PF.says, Prod.mk.injEq]
      exact ⟨hq1, by rw [e.2.1, hd], e.2.2⟩) (fun q => by unfold cutD; split <;> exact ⟨rfl, rfl⟩) (by have h1 := sum_says h.sy; have h2 := h.sm; omega)
  have hj5 : j < (fs.set j ⟨(fs.getD j nilFl).nm, a, c, dat, (fs.getD j nilFl).syn⟩).length := by simpa using hj
  have hg5 := getD_set hj ⟨(fs.getD j nilFl).nm, a, c, dat, (fs.getD j nilFl).syn⟩
  have hl5 : (fs.set j ⟨(fs.getD j nilFl).nm, a, c, dat, (fs.getD j nilFl).syn⟩).length = fs.length := List.length_set
  rw [← hl5] at h5
  have h6 := RD.put2 (nm := nm) (s := s) h5 hgB (cutD_ne nm n hr) hj5 (by rw [hg5]; exact hnm) (cutS nm n) (fun q hq => by unfold cutS; rw [if_neg (by simpa using hq)]) (fun q hq e => by
      rw [hg5] at e ⊢
      have hq1 : q.nm = nm := by simp only [Fl.says, PF.says, Prod.mk.injEq] at e; rw [e.1, hnm]
      simp only [Fl.says, PF.says, Prod.mk.injEq] at e
      unfold cutS
      rw [if_pos (by simpa using hq1)]
      simp only [PF.says, Prod.mk.injEq]
      exact ⟨hq1, e.2.1, by rw [hs, ← e.2.2]; omega⟩) (fun q => by unfold cutS; split <;> exact ⟨rfl, rfl⟩)
  rw [hg5, hl5, List.set_set] at h6
  have e := cut_eq p.fs nm n
  simp only at h6
  rw [e] at h6
  exact h6
theorem cell_other {w : World} {g B o i : Nat} {u x : Value} (h : g ≠ B) (hc : w.cell? ⟨B, i, none⟩ = some x) : (w.setCell ⟨g, o, none⟩ u).cell? ⟨B, i, none⟩ = some x :=
  (World.cell?_of_block (a := ⟨B, i, none⟩) (Below.heap_setCell _ _ _ _ (fun e => h e.symm))).trans hc
theorem cell_beside {w : World} {g o i : Nat} {u x : Value} (h : i ≠ o) (hc : w.cell? ⟨g, i, none⟩ = some x) : (w.setCell ⟨g, o, none⟩ u).cell? ⟨g, i, none⟩ = some x := by
  rw [World.cell?_setCell_other]
  · exact hc
  · intro e
    cases e
    exact h rfl
theorem frozen_set (w : World) (g o i : Nat) (u : Value) : (w.setCell ⟨g, o, none⟩ u).frozen? ⟨g, i, none⟩ = w.frozen? ⟨g, i, none⟩ := by simp
theorem cut_done {S : Nat → Prop} {w w1 w3 : World} {B g cap j k : Nat} {p : PD} {fs : List Fl} {l nm dt : List UInt8} {a : Option Addr} {c : Nat} {f : Fl} {s : Int} (h : Rdo S w B p (.slice (some ⟨g, 0, none⟩) fs.length cap) fs l) (hG : Good p) (hR1 : RD 0 w1 B p.fail (.slice (some ⟨g, 0, none⟩) fs.length cap) fs l) (hO1 : Out (· = B) w w1) (hgB : g ≠ B) (hj : j < fs.length) (hf : fs.getD j nilFl = f) (hnm : f.nm = nm) (hB3 : Below w1.heap.size w1 w3) (hO : Ow w1.heap.size w3 (.slice a dt.length c) dt) (hd : dt = f.dat.take k) (hs : s = min f.syn (k : Int)) (hE : doCut p nm (k : Int) = (0, { p.fail with fs := p.fs.map (cutP nm k) })) :
    RDone S w B (doCut p nm (k : Int)) (.returned (.int .i64 0)) ((w3.setCell ⟨g, j * 3 + 1, none⟩ (.slice a dt.length c)).setCell ⟨g, j * 3 + 2, none⟩ (.int .i64 s)).drew := by
  have HP := pd_fail_fs p
  have hne : p.fail.fs.Pairwise (fun f g => f.nm ≠ g.nm) := by rw [HP]; exact rise_ne hG.rise
  have hR5 := RD.cut (n := k) hR1 hgB hne hj hf hnm hB3 (hO.base (Nat.zero_le _)) hd hs
  rw [HP] at hR5
  have hR6 := hR5.drew
  have hSg : S g := h.Sv g rfl
  have hO5 : Out S w ((w3.setCell ⟨g, j * 3 + 1, none⟩ (.slice a dt.length c)).setCell ⟨g, j * 3 + 2, none⟩ (.int .i64 s)) := ((((hO1.fit (X := S) h.SB).trans (Out.of_below (X := S) hB3) (fun i hi _ => hi)).trans (Out.set (X := S) hSg) (fun i hi _ => hi)).trans (Out.set (X := S) hSg) (fun i hi _ => hi))
  have hO6 : Out S w ((w3.setCell ⟨g, j * 3 + 1, none⟩ (.slice a dt.length c)).setCell ⟨g, j * 3 + 2, none⟩ (.int .i64 s)).drew := ⟨hO5.os, hO5.tape, hO5.output, hO5.size, hO5.block⟩
  refine RDone.mk hE rfl hO6 (h.row hO6 hR6 (fun x hx => ?_) (map_nm (fun q => by unfold cutP; split <;> rfl) _))
  rcases mem_set_fl hx with rfl | hx
  · exact .inr (fun g' hg' => .inr (Nat.le_trans hO1.size (World.ownsRow.lt hO g' hg').1))
  · exact .inl hx

set_option maxRecDepth 100000 in
set_option maxHeartbeats 8000000 in
theorem refCut {S : Nat → Prop} {w : World} {B : Nat} {p : PD} (h : RDs S w B p) (hg : Good p) (nm : List UInt8) (n : Int) (hn : n ≤ 9223372036854775807) :
    Calls Tryz.prog 78 #[.pointer (some ⟨B, 0, none⟩), .string ⟨nm.toArray⟩, .int .i64 n] w fun r w' => RDone S w B (doCut p nm n) r w' := by
  obtain ⟨v, fs, l, h⟩ := h
  obtain ⟨k0, k1, k2, k3, f0, f1, f2, f3⟩ := h.rd.cells
  have HH : Hid (Rdo S w B p v fs l) := h
  have HS := says_nm h.rd.sy nm
  obtain ⟨va, vc, hv⟩ := row_shape h.rd.fi.row
  have hat := refAt_any h.rd nm
  have hsm := h.rd.sm
  cases hd : p.dn with
  | true =>
    have HE : Hid (doCut p nm n = (11, p)) := by show doCut p nm n = _; simp [doCut, hd]
    rw [hd] at k2
    clear h HS hd
    subst hv
    go_enter Tryz.func78, Tryz.ntmps78
    go_wp2
    go_ret
    exact RDone.mk HE.out rfl (Out.refl _ _) HH.out.grew
  | false =>
  rw [hd] at k2
  by_cases h2 : (lookP nm p.fs).isSome = true
  case neg =>
    have hnone : lookP nm p.fs = none := by simpa using h2
    have HE : Hid (doCut p nm n = (8, p)) := by show doCut p nm n = _; simp [doCut, hd, hnone]
    have HX : Hid (∀ f ∈ fs, f.nm ≠ nm) := fun f hf e => h2 (HS.1 ⟨f, hf, e⟩)
    clear h h2 HS hd hnone
    subst hv
    go_enter Tryz.func78, Tryz.ntmps78
    go_wp2_with (first
      | (go_at_call 82; refine hat.mono ?_; rintro r w' ⟨i, rfl, hi, hw⟩; subst w'; have hi0 : i < (0 : Int) := at_neg hi HX.out; clear hi)
      | fail)
    go_ret
    exact RDone.mk HE.out rfl (Out.refl _ _) HH.out.grew
  have HX : Hid (∃ f ∈ fs, f.nm = nm) := HS.2 h2
  obtain ⟨q, hq⟩ := Option.isSome_iff_exists.1 h2
  have HLK : Hid (∀ j, j < fs.length → (fs.getD j nilFl).nm = nm → q.says = (fs.getD j nilFl).says) := fun j hj hjn => by
    obtain ⟨q', h1, h3, h4⟩ := look_at h.rd.sy hj (rise_ne hg.rise)
    rw [hjn, hq] at h1
    cases h1
    exact h4
  have HE : Hid (doCut p nm n = if n < 0 ∨ (q.dat.length : Int) < n then (1, p) else if p.fell then (11, p.fail) else (0, { p.fail with fs := p.fs.map (cutP nm n.toNat) })) := by
    show doCut p nm n = _
    simp only [doCut, hd, hq]
    rw [if_neg (by simp)]
  have HG : Hid (Good p) := hg
  have hfl := refFails_any h.rd hg.arm
  have HP : Hid (p.fail.fs = p.fs) := pd_fail_fs p
  have HFW : Hid (∀ j, j < fs.length → (fs.getD j nilFl).dat.length ≤ 16777216) := fun j hj => by have h1 := sumF_mem hj; have h2 := sum_says h.rd.sy; have := h.rd.sm; show _ ≤ _; omega
  have HAT : Hid (∀ {j : Nat}, j < fs.length → ∃ g cap, v = .slice (some ⟨g, 0, none⟩) fs.length cap ∧ fs.length ≤ cap ∧ cap ≤ maxLen ∧ g ≠ B ∧ FlAt w.heap.size w g (j * 3) (fs.getD j nilFl) ∧ (∀ i, w.frozen? ⟨g, i, none⟩ = false) ∧ (∃ cs, w.heap[g]? = some (.cells cs 71 (0, 0)))) := fun hj => h.rd.at hj
  clear h2 HS hd
  by_cases hneg : n < 0
  · have hneg' : decide (n < 0) = true := by simpa using hneg
    clear h
    subst hv
    go_enter Tryz.func78, Tryz.ntmps78
    go_wp2_with (first
      | (go_at_call 82; refine hat.mono ?_; rintro r w' ⟨i, rfl, hi, hw⟩; subst w'; obtain ⟨j, rfl, hj, hjn⟩ := at_pos hi HX.out; have hi0 : (0 : Int) ≤ (j : Int) := (by omega); have hi1 : (j : Int) < (fs.length : Int) := (by omega); clear hi)
      | fail)
    go_ret
    exact RDone.mk (by rw [HE.out, if_pos (.inl hneg)]) rfl (Out.refl _ _) HH.out.grew
  have hneg' : decide (n < 0) = false := by simpa using hneg
  by_cases hbig : (q.dat.length : Int) < n
  · have HBG : Hid ((q.dat.length : Int) < n) := hbig
    clear h hbig
    subst hv
    go_enter Tryz.func78, Tryz.ntmps78
    go_wp2_with (first
      | (go_at_call 82; refine hat.mono ?_; rintro r w' ⟨i, rfl, hi, hw⟩; subst w'; obtain ⟨j, rfl, hj, hjn⟩ := at_pos hi HX.out; have hi0 : (0 : Int) ≤ (j : Int) := (by omega); have hi1 : (j : Int) < (fs.length : Int) := (by omega); obtain ⟨g, gc, hv2, hg1, hg2, hgB, hat2, hfz, -⟩ := HAT.out hj; cases hv2; obtain ⟨c0, c1, c2, -⟩ := hat2; unfold Fl.x at c1; have hlk := HLK.out j hj hjn; have hlen : (((fs.getD j nilFl).dat.length : Nat) : Int) < n := (by have := HBG.out; simp only [Fl.says, PF.says, Prod.mk.injEq] at hlk; rw [hlk.2.1] at this; exact this); generalize fs.getD j nilFl = f at *; clear hi hlk)
      | fail)
    go_ret
    exact RDone.mk (by rw [HE.out, if_pos (.inr HBG.out)]) rfl (Out.refl _ _) HH.out.grew
  obtain ⟨k, rfl⟩ : ∃ k : Nat, n = (k : Int) := ⟨n.toNat, by omega⟩
  have HBG : Hid (k ≤ q.dat.length) := by show _ ≤ _; omega
  have HE2 : Hid (doCut p nm (k : Int) = if p.fell then (11, p.fail) else (0, { p.fail with fs := p.fs.map (cutP nm k) })) := by
    show _ = _
    rw [HE.out, if_neg (by omega)]
    rfl
  clear hneg hbig hneg' HE
  have HE := HE2
  clear HE2
  cases hfe : p.fell with
  | true =>
    rw [hfe] at hfl
    have HFE : Hid (p.fell = true) := hfe
    clear h hfe
    subst hv
    go_enter Tryz.func78, Tryz.ntmps78
    go_wp2_with (first
      | (go_at_call 82; refine hat.mono ?_; rintro r w' ⟨i, rfl, hi, hw⟩; subst w'; obtain ⟨j, rfl, hj, hjn⟩ := at_pos hi HX.out; have hi0 : (0 : Int) ≤ (j : Int) := (by omega); have hi1 : (j : Int) < (fs.length : Int) := (by omega); obtain ⟨g, gc, hv2, hg1, hg2, hgB, hat2, hfz, -⟩ := HAT.out hj; cases hv2; obtain ⟨c0, c1, c2, -⟩ := hat2; unfold Fl.x at c1; have hlk := HLK.out j hj hjn; have hlen : ((k : Nat) : Int) ≤ ((fs.getD j nilFl).dat.length : Int) := (by have := HBG.out; simp only [Fl.says, PF.says, Prod.mk.injEq] at hlk; rw [hlk.2.1] at this; omega); generalize fs.getD j nilFl = f at *; clear hi hlk)
      | (go_at_call 105; refine hfl.mono ?_; rintro r w1 ⟨rfl, hR1, hO1⟩)
      | fail)
    go_ret
    exact RDone.mk (by rw [HE.out, HFE.out]; rfl) rfl (hO1.fit (X := S) HH.out.SB) (HH.out.step (hO1.fit (X := S) HH.out.SB) hR1 (fun g hg => .inl (HH.out.Sv g hg)) (fun f hf => .inl hf) (by rw [HP.out]; exact HH.out.lt0))
  | false =>
    rw [hfe] at hfl
    have HFE : Hid (p.fell = false) := hfe
    clear h hfe
    subst hv
    go_enter Tryz.func78, Tryz.ntmps78
    go_wp2_with (first
      | (go_at_call 82; refine hat.mono ?_; rintro r w' ⟨i, rfl, hi, hw⟩; subst w'; obtain ⟨j, rfl, hj, hjn⟩ := at_pos hi HX.out; have hi0 : (0 : Int) ≤ (j : Int) := (by omega); have hi1 : (j : Int) < (fs.length : Int) := (by omega); obtain ⟨g, gc, hv2, hg1, hg2, hgB, hat2, hfz, -⟩ := HAT.out hj; cases hv2; obtain ⟨c0, c1, c2, -⟩ := hat2; unfold Fl.x at c1; have hlk := HLK.out j hj hjn; have hlen : ((k : Nat) : Int) ≤ ((fs.getD j nilFl).dat.length : Int) := (by have := HBG.out; simp only [Fl.says, PF.says, Prod.mk.injEq] at hlk; rw [hlk.2.1] at this; omega); have HJN : Hid ((fs.getD j nilFl).nm = nm) := hjn; have hfd := HFW.out j hj; obtain ⟨f, hf⟩ : ∃ f, fs.getD j nilFl = f := ⟨_, rfl⟩; have HF : Hid (fs.getD j nilFl = f) := hf; rw [hf] at c0 c1 c2 hlen hfd; clear hi hlk hjn hf hfz hat)
      | (go_at_call 105; refine hfl.mono ?_; rintro r w1 ⟨rfl, hR1, hO1⟩)
      | fail)
    clear c0 c1 c2 k0 k1 k2 k3 f0 f1 f2 f3 hfl hgB
    have hBlt := hR1.lt
    obtain ⟨g', gc', hv2, -, -, hgB, hat2, hfz, ⟨cs, hcs⟩⟩ := hR1.at hj
    cases hv2
    have hglt : g < w1.heap.size := (Array.getElem?_eq_some_iff.1 hcs).1
    rw [HF.out] at hat2
    obtain ⟨c0, c1, c2, csl⟩ := hat2
    unfold Fl.x at c1 csl
    obtain ⟨m0, -⟩ := hR1.cells
    have hcap : f.dat.length ≤ f.c ∧ f.c ≤ maxLen := by obtain ⟨a1, cap1, e, q1, q2, _⟩ := csl; cases e; exact ⟨q1, q2⟩
    have hkc : (k : Int) ≤ (f.c : Int) := by omega
    have hk0 : (0 : Int) ≤ (k : Int) := by omega
    have hby := bytes_any w1.heap.size (.slice f.a k f.c) (f.dat.take k) w1.drew ((csl.front k (by omega)).below ⟨rfl, rfl, rfl, Nat.le_refl _, fun _ _ => rfl⟩) (Nat.le_refl _) (by simp only [List.length_take]; omega)
    obtain ⟨dt, hdt⟩ : ∃ dt, f.dat.take k = dt := ⟨_, rfl⟩
    have HDT : Hid (f.dat.take k = dt) := hdt
    rw [hdt] at hby
    clear hdt hcs
    go_region_law (first
        | (go_simp; go_at_call 69; refine hby.mono ?_; rintro e w3 ⟨v3, rfl, hO3, hB3⟩; obtain ⟨ba, bc, rfl, -, -⟩ := hO3.shape; have hO3x : Ow w1.heap.size w3 (.slice ba dt.length bc) dt := hO3; have hB3x : Below w1.heap.size w1 w3 := ⟨hB3.os, hB3.tape, hB3.output, hB3.size, hB3.block⟩; have n0 := (hB3x.cell (p := ⟨B, 0, none⟩) hBlt).trans m0; have n1 := (hB3x.cell (p := ⟨g, j * 3 + 1, none⟩) hglt).trans c1; have n2 := (hB3x.cell (p := ⟨g, j * 3 + 2, none⟩) hglt).trans c2; have n3 := (hB3x.frozen (p := ⟨g, j * 3 + 1, none⟩) hglt).trans (hfz _); have n4 := (hB3x.frozen (p := ⟨g, j * 3 + 2, none⟩) hglt).trans (hfz _))
        | fail)
    all_goals (
      have p0 : (w3.setCell ⟨g, j * 3 + 1, none⟩ (.slice ba dt.length bc)).cell? ⟨B, 0, none⟩ = some (.slice (some ⟨g, 0, none⟩) fs.length vc) := cell_other hgB n0
      have p2 : (w3.setCell ⟨g, j * 3 + 1, none⟩ (.slice ba dt.length bc)).cell? ⟨g, j * 3 + 2, none⟩ = some (.int .i64 f.syn) := cell_beside (by omega) n2
      have p4 : (w3.setCell ⟨g, j * 3 + 1, none⟩ (.slice ba dt.length bc)).frozen? ⟨g, j * 3 + 2, none⟩ = false := (frozen_set _ _ _ _ _).trans n4
      clear n0 n1 n2 n3 n4 c0 c1 c2 m0 hfz
      go_wp2
      go_region)
    all_goals (
      go_wp2
      go_ret
      refine cut_done (nm := nm) HH.out HG.out hR1 hO1 hgB hj HF.out (by have h9 := HJN.out; rw [HF.out] at h9; exact h9) hB3x hO3x HDT.out.symm ?_ (by rw [HE.out, HFE.out]; rfl)
      rfl)
end Go.Proofs.YtadajbdmlmickaaGreatDoor
namespace Go.Proofs.YtadajbdmlmickaaGreatDoor
open Go.RowKit Go.Shelf
set_option linter.unusedVariables false

/-- A file's bytes and how many are durable are others. -/
theorem RD.both {w : World} {B g cap j : Nat} {p : PD} {fs : List Fl} {l nm dat : List UInt8} {a : Option Addr} {c : Nat} {s : Int} (h : RD 0 w B p (.slice (some ⟨g, 0, none⟩) fs.length cap) fs l) (hgB : g ≠ B) (hr : p.fs.Pairwise (fun f g => f.nm ≠ g.nm)) (hj : j < fs.length) (hnm : (fs.getD j nilFl).nm = nm) (hO : Ow 0 w (.slice a dat.length c) dat) (hlen : dat.length ≤ (fs.getD j nilFl).dat.length)
    (G : PF → PF) (hG : ∀ q, q.nm ≠ nm → (G q).says = q.says) (hG2 : ∀ q ∈ p.fs, q.says = (fs.getD j nilFl).says → (G q).says = (nm, dat, s)) (hGl : ∀ q, (G q).nm = q.nm ∧ (G q).late = q.late) :
    RD 0 ((w.setCell ⟨g, j * 3 + 1, none⟩ (.slice a dat.length c)).setCell ⟨g, j * 3 + 2, none⟩ (.int .i64 s)) B { p with fs := p.fs.map G } (.slice (some ⟨g, 0, none⟩) fs.length cap) (fs.set j ⟨(fs.getD j nilFl).nm, a, c, dat, s⟩) l := by
  have h1 := FilesIn.set1 h.fi hj hO
  have hl5 : (fs.set j ⟨(fs.getD j nilFl).nm, a, c, dat, (fs.getD j nilFl).syn⟩).length = fs.length := List.length_set
  have hg5 := getD_set hj ⟨(fs.getD j nilFl).nm, a, c, dat, (fs.getD j nilFl).syn⟩
  rw [← hl5] at h1
  have h2 := FilesIn.set2 h1 (j := j) (by rw [hl5]; exact hj) s
  rw [hg5, hl5, List.set_set] at h2
  have hsy := says_set (f' := ⟨(fs.getD j nilFl).nm, a, c, dat, s⟩) G h.sy hr hj hnm hG (fun q hq e => by rw [hG2 q hq e]; show ((fs.getD j nilFl).nm, dat, s) = _; rw [hnm])
  refine ⟨Nat.zero_le _, ?_, h2, hsy, by rw [List.length_set]; exact h.fw, ?_, ?_⟩
  · refine Eq.trans ((Out.set (X := (· = g)) rfl).block B ?_ (fun e => hgB e.symm)) (((Out.set (X := (· = g)) rfl).block B h.lt (fun e => hgB e.symm)).trans h.hd)
    rw [size_set]; exact h.lt
  · have h3 := sum_says hsy
    have h4 := sumF_set (f' := ⟨(fs.getD j nilFl).nm, a, c, dat, s⟩) hj
    have h5 := sum_says h.sy
    have h6 := h.sm
    show sumP (p.fs.map G) ≤ _
    simp only at h4
    omega
  · intro f hf
    obtain ⟨q, hq, rfl⟩ := List.mem_map.1 hf
    rw [(hGl q).1, (hGl q).2]
    exact h.la q hq
def crK (keep : Int) (f : PF) : PF := { crashP keep f with late := f.late }
def crG (keep : Int) (nm : List UInt8) (q : PF) : PF := if q.nm == nm then crK keep q else q
def crI (keep : Int) (k : Nat) (ps : List PF) : List PF := (ps.take k).map (crK keep) ++ ps.drop k
theorem crK_nm (keep : Int) (q : PF) : (crK keep q).nm = q.nm := rfl
theorem crI_nm (keep : Int) (k : Nat) (ps : List PF) : (crI keep k ps).map PF.nm = ps.map PF.nm := by
  unfold crI
  rw [List.map_append, List.map_map]
  have e : (ps.take k).map (PF.nm ∘ crK keep) = (ps.take k).map PF.nm := List.map_congr_left fun q _ => crK_nm keep q
  rw [e, ← List.map_append, List.take_append_drop]
theorem ne_of_map {ps qs : List PF} (h : ps.map PF.nm = qs.map PF.nm) (hq : qs.Pairwise (fun f g => f.nm ≠ g.nm)) : ps.Pairwise (fun f g => f.nm ≠ g.nm) := by
  have h1 : (qs.map PF.nm).Pairwise (fun a b => a ≠ b) := List.pairwise_map.2 hq
  rw [← h] at h1
  exact List.pairwise_map.1 h1
theorem crI_step {keep : Int} {k : Nat} {ps : List PF} (hp : ps.Pairwise (fun f g => f.nm ≠ g.nm)) (hk : k < ps.length) {nm : List UInt8} (hn : ps[k].nm = nm) : (crI keep k ps).map (crG keep nm) = crI keep (k + 1) ps := by
  have e : ps.drop k = ps[k] :: ps.drop (k + 1) := List.drop_eq_getElem_cons hk
  have e2 : ps.take (k + 1) = ps.take k ++ [ps[k]] := List.take_succ_eq_append_getElem hk
  have hsplit : (ps.take k ++ ps[k] :: ps.drop (k + 1)).Pairwise (fun f g => f.nm ≠ g.nm) := by rw [← e, List.take_append_drop]; exact hp
  obtain ⟨h1, h2, h3⟩ := List.pairwise_append.1 hsplit
  obtain ⟨h4, h5⟩ := List.pairwise_cons.1 h2
  unfold crI
  rw [e, e2, List.map_append, List.map_append, List.map_cons]
  have a1 : ((ps.take k).map (crK keep)).map (crG keep nm) = (ps.take k).map (crK keep) := by
    rw [List.map_map]
    refine List.map_congr_left fun q hq => ?_
    show crG keep nm (crK keep q) = crK keep q
    unfold crG
    rw [if_neg]
    rw [crK_nm]
    have := h3 q hq ps[k] List.mem_cons_self
    rw [hn] at this
    simpa using this
  have a2 : (ps.drop (k + 1)).map (crG keep nm) = ps.drop (k + 1) := by
    have : (ps.drop (k + 1)).map (crG keep nm) = (ps.drop (k + 1)).map id := List.map_congr_left fun q hq => by
      unfold crG
      rw [if_neg]
      · rfl
      · have := h4 q hq
        rw [hn] at this
        simpa using fun e : q.nm = nm => this e.symm
    rw [this, List.map_id]
  have a3 : crG keep nm ps[k] = crK keep ps[k] := by unfold crG; rw [if_pos (by simpa using hn)]
  rw [a1, a2, a3]
  simp
/-- Nothing but the row of files and new blocks. -/
structure CrI (keep : Int) (w wr : World) (B g cap : Nat) (p : PD) (fs fl : List Fl) (l : List UInt8) (k : Nat) : Prop where
  rd : RD 0 wr B { p with fs := crI keep k p.fs } (.slice (some ⟨g, 0, none⟩) fs.length cap) fl l
  out : Out (· = g) w wr
  new : ∀ f ∈ fl, f ∈ fs ∨ ∀ b, f.x.ownBlock = some b → w.heap.size ≤ b
  len : fl.length = fs.length
def crN (late : Bool) (keep : Int) (sy len : Nat) : Nat := if late then sy + min keep.toNat (len - sy) else sy
theorem CrI.step {keep : Int} {w wr w3 : World} {B g cap k : Nat} {p : PD} {fs fl : List Fl} {l dt : List UInt8} {f : Fl} {a : Option Addr} {c t : Nat} (h : CrI keep w wr B g cap p fs fl l k) (hG : Good p) (hgB : g ≠ B) (hk : k < fs.length) (hf : fl.getD k nilFl = f) (hB3 : Below wr.heap.size wr w3) (hO : Ow wr.heap.size w3 (.slice a dt.length c) dt) (hd : dt = f.dat.take t) {sy : Nat} (hsy : f.syn = (sy : Int)) (ht : t = crN (f.nm == l) keep sy f.dat.length) :
    CrI keep w ((w3.setCell ⟨g, k * 3 + 1, none⟩ (.slice a dt.length c)).setCell ⟨g, k * 3 + 2, none⟩ (.int .i64 (t : Int))) B g cap p fs (fl.set k ⟨f.nm, a, c, dt, (t : Int)⟩) l (k + 1) := by
  subst hf
  have hk2 : k < fl.length := by rw [h.len]; exact hk
  have hne := rise_ne hG.rise
  have hr3 := h.rd.out (X := fun _ => False) (Out.of_below hB3) (fun h => h) (fun _ _ h => h) (fun _ _ _ _ h => h)
  rw [← h.len] at hr3
  have hkp : k < p.fs.length := by
    have := h.rd.len
    have e := congrArg List.length (crI_nm keep k p.fs)
    simp only [List.length_map] at e
    simp only at this
    omega
  have hnk : p.fs[k].nm = (fl.getD k nilFl).nm := by
    have e1 := says_nms h.rd.sy
    simp only at e1
    rw [crI_nm] at e1
    have e2 : (fl.map Fl.nm)[k]? = (p.fs.map PF.nm)[k]? := by rw [e1]
    rw [List.getElem?_map, List.getElem?_map, List.getElem?_eq_getElem hkp, List.getElem?_eq_getElem hk2] at e2
    simp only [Option.map_some, Option.some.injEq] at e2
    rw [← e2, List.getD_eq_getElem?_getD, List.getElem?_eq_getElem hk2]
    rfl
  have hR := RD.both (nm := (fl.getD k nilFl).nm) (dat := dt) (a := a) (c := c) (s := (t : Int)) hr3 hgB (ne_of_map (crI_nm keep k p.fs) hne) hk2 rfl (hO.base (Nat.zero_le _)) (by rw [hd]; simp only [List.length_take]; omega) (crG keep (fl.getD k nilFl).nm) (fun q hq => by unfold crG; rw [if_neg (by simpa using hq)]) (fun q hq e => by
      have hq1 : q.nm = (fl.getD k nilFl).nm := by simp only [Fl.says, PF.says, Prod.mk.injEq] at e; exact e.1
      have hql := h.rd.la q hq
      simp only [Fl.says, PF.says, Prod.mk.injEq] at e
      have hqs : q.syn = sy := by have := e.2.2; rw [hsy] at this; omega
      unfold crG
      rw [if_pos (by simpa using hq1)]
      have ht2 : (crashP keep q).syn = t := by
        rw [ht]
        unfold crashP crN
        rw [hql, hq1, hqs, e.2.1]
      have hd2 : (crashP keep q).dat = q.dat.take (crashP keep q).syn := rfl
      show ((crashP keep q).nm, (crashP keep q).dat, ((crashP keep q).syn : Int)) = _
      rw [hd2, ht2, e.2.1, hd]
      rw [← hq1]; rfl) (fun q => by unfold crG; split <;> exact ⟨rfl, rfl⟩)
  simp only at hR
  rw [crI_step hne hkp hnk, h.len] at hR
  refine ⟨hR, ?_, fun x hx => ?_, by rw [List.length_set]; exact h.len⟩
  · exact ((h.out.trans (Out.of_below (X := (· = g)) hB3) (fun i hi _ => hi)).trans (Out.set (X := (· = g)) rfl) (fun i hi _ => hi)).trans (Out.set (X := (· = g)) rfl) (fun i hi _ => hi)
  · rcases mem_set_fl hx with rfl | hx
    · exact .inr (fun b hb => Nat.le_trans h.out.size (World.ownsRow.lt hO b hb).1)
    · exact h.new x hx

theorem crN_le (late : Bool) (keep : Int) {sy len : Nat} (h : sy ≤ len) : crN late keep sy len ≤ len := by
  unfold crN
  split <;> omega
/-- Behind the loop, the disk's own cells are cleared. -/
theorem crash_done {S : Nat → Prop} {w wr wf : World} {B : Nat} {p : PD} {v : Value} {fs fl : List Fl} {l : List UInt8} {keep : Int} (h : Rdo S w B p v fs l) (hG : Good p) (hR : RD 0 wr B { p with fs := p.fs.map (crK keep) } v fl l) (hO : Out S w wr) (hnew : ∀ f ∈ fl, f ∈ fs ∨ ∀ b, f.x.ownBlock = some b → w.heap.size ≤ b) (hf : Out (· = B) wr wf) (hd : wf.heap[B]? = some (.cells #[v, .int .i64 0, .bool false, .string ⟨#[]⟩] 30 (0, 0))) : Out S w wf ∧ RDs (grew S w wf) wf B (doCrash p keep) := by
  have hs : (p.fs.map (crK keep)).map PF.says = (p.fs.map (crashP keep)).map PF.says := by
    rw [List.map_map, List.map_map]
    exact List.map_congr_left fun q _ => rfl
  have hR1 : RD 0 wf B (doCrash p keep) v fl [] := by
    refine ⟨Nat.zero_le _, hd, ⟨row_out hR.fi.row hf (fun g hg e => ?_), fun f hf' => (hR.fi.own f hf').out hf (fun g hg e => (hR.fi.own f hf').not_at hR.hd (by decide) (by rw [hg, e]))⟩, hR.sy.trans hs, hR.fw, ?_, ?_⟩
    · rcases hR.fi.row.2 with ⟨hv0, _⟩ | ⟨g', cap, cur, hv0, _, hgb, _⟩
      · rw [hv0] at hg; simp [Value.ownBlock] at hg
      · rw [hv0] at hg
        simp [Value.ownBlock] at hg
        subst hg e
        rw [hR.hd] at hgb
        cases hgb
    · have h1 := sum_says hR.sy
      have h2 := sum_says (hR.sy.trans hs)
      have h3 := hR.sm
      show sumP (p.fs.map (crashP keep)) ≤ _
      simp only at h1 h3
      omega
    · intro f hf'
      obtain ⟨q, hq, rfl⟩ := List.mem_map.1 hf'
      have h4 := isNm_ne (hG.nms q hq)
      show false = (q.nm == [])
      rw [show (q.nm == []) = false from by simpa using h4]
  have hO2 : Out S w wf := hO.trans (hf.fit (X := S) h.SB) (fun i hi _ => hi)
  exact ⟨hO2, v, fl, [], h.step hO2 hR1 (fun g hg => .inl (h.Sv g hg)) (fun f hf' => (hnew f hf').imp id (fun h9 b hb => .inr (h9 b hb))) (.inl rfl)⟩

set_option maxRecDepth 100000 in
set_option maxHeartbeats 8000000 in
theorem refCrash {S : Nat → Prop} {w : World} {B : Nat} {p : PD} (h : RDs S w B p) (hg : Good p) (keep : Int) (hk : keep ≤ 9223372036854775807) :
    Calls Tryz.prog 38 #[.pointer (some ⟨B, 0, none⟩), .int .i64 keep] w fun r w' => r = .returned (.tuple #[]) ∧ Out S w w' ∧ RDs (grew S w w') w' B (doCrash p keep) := by
  obtain ⟨v, fs, l, h⟩ := h
  have HH : Hid (Rdo S w B p v fs l) := h
  have HG : Hid (Good p) := hg
  by_cases hz : fs = []
  · subst hz
    obtain ⟨va, vc, hv⟩ := row_shape h.rd.fi.row
    obtain ⟨k0, k1, k2, k3, f0, f1, f2, f3⟩ := h.rd.cells
    have hd0 := h.rd.hd
    have hp0 : p.fs = [] := List.length_eq_zero_iff.1 (by have := h.rd.len; simpa using this.symm)
    have HD : Hid (w.heap[B]? = some (.cells #[v, .int .i64 (p.arm : Int), .bool p.dn, .string ⟨l.toArray⟩] 30 (0, 0))) := hd0
    have HP0 : Hid (p.fs = []) := hp0
    subst hv
    clear h hd0 hp0
    go_enter Tryz.func38, Tryz.ntmps38
    go_wp2_with fail
    go_loopw [4] (fun iv wr => iv = .int .i64 0 ∧ wr = w) (fun _ _ => 0)
    case atStart => exact ⟨rfl, rfl⟩
    case round =>
      obtain ⟨rfl, rfl⟩ := hrel
      go_wp2
      go_end0
      refine ⟨rfl, crash_done HH.out HG.out (keep := keep) (wr := wr) (fl := []) (by have := HH.out.rd; rw [HP0.out]; refine ⟨this.le, this.hd, this.fi, rfl, this.fw, by simp [sumP], by simp⟩) (Out.refl _ _) (fun f hf => by simp at hf) (((Out.set (X := (· = B)) rfl).trans (Out.set (X := (· = B)) rfl) (fun i hi _ => hi)).trans (Out.set (X := (· = B)) rfl) (fun i hi _ => hi)) (by simpa using heap_set (heap_set (heap_set HD.out 1 (.int .i64 0)) 2 (.bool false)) 3 (.string ⟨#[]⟩))⟩
  have hpos : 0 < fs.length := by cases fs with | nil => exact absurd rfl hz | cons _ _ => simp
  obtain ⟨g, cap, hv, hc1, hc2, hgB, -, -, -⟩ := h.rd.at hpos
  subst hv
  have HSG : Hid (S g) := h.Sv g rfl
  have hfw := h.rd.fw
  have HST : Hid (CrI keep w w B g cap p fs fs l 0) := ⟨by simpa [crI] using h.rd, Out.refl _ _, fun f hf => .inl hf, rfl⟩
  have hkm0 : (0 : Int) ≤ (max keep 0) := by omega
  clear h hz hpos
  go_enter Tryz.func38, Tryz.ntmps38
  go_wp2_with fail
  go_loopw [4] (fun iv wr => ∃ (k : Nat) (fl : List Fl), iv = .int .i64 (k : Int) ∧ k ≤ fs.length ∧ CrI keep w wr B g cap p fs fl l k) (fun iv _ => fs.length - (intOf iv).toNat)
  case atStart => exact ⟨0, fs, rfl, Nat.zero_le _, HST.out⟩
  case round =>
    obtain ⟨k, fl, rfl, hkn, hI⟩ := hrel
    have HI : Hid (CrI keep w wr B g cap p fs fl l k) := hI
    have hBlt := hI.rd.lt
    by_cases hlt : k < fs.length
    · have hk2 : k < fl.length := by rw [hI.len]; exact hlt
      have hi0 : (0 : Int) ≤ (k : Int) := by omega
      have hi1 : (k : Int) < (fs.length : Int) := by omega
      obtain ⟨f, hf⟩ : ∃ f, fl.getD k nilFl = f := ⟨_, rfl⟩
      have HF : Hid (fl.getD k nilFl = f) := hf
      have hrd := hI.rd
      rw [← hI.len] at hrd
      obtain ⟨g', gc', hv2, -, -, -, hat2, hfz, ⟨cs, hcs⟩⟩ := hrd.at hk2
      cases hv2
      have hglt : g < wr.heap.size := (Array.getElem?_eq_some_iff.1 hcs).1
      rw [hf] at hat2
      obtain ⟨c0, c1, c2, csl⟩ := hat2
      unfold Fl.x at c1 csl
      obtain ⟨m0, -, -, m3, -⟩ := hI.rd.cells
      obtain ⟨sy, hsy, hsl⟩ : ∃ sy : Nat, f.syn = (sy : Int) ∧ sy ≤ f.dat.length := by
        have hm : (fl.getD k nilFl).says ∈ (crI keep k p.fs).map PF.says := by rw [← hI.rd.sy]; exact List.mem_map_of_mem (getD_mem hk2)
        obtain ⟨q, hq, e⟩ := List.mem_map.1 hm
        rw [hf] at e
        simp only [Fl.says, PF.says, Prod.mk.injEq] at e
        refine ⟨q.syn, e.2.2.symm, ?_⟩
        rw [← e.2.1]
        rcases List.mem_append.1 hq with hq | hq
        · obtain ⟨x, hx, rfl⟩ := List.mem_map.1 hq
          have h8 := HG.out.syn x (List.mem_of_mem_take hx)
          show (crashP keep x).syn ≤ (crashP keep x).dat.length
          unfold crashP
          simp only [List.length_take]
          split <;> omega
        · exact HG.out.syn q (List.mem_of_mem_drop hq)
      have HSY : Hid (f.syn = (sy : Int)) := hsy
      rw [hsy] at c2
      have hfd : f.dat.length ≤ 16777216 := by have h1 := sumF_mem hk2; have h2 := sum_says hI.rd.sy; have h3 := hI.rd.sm; rw [hf] at h1; simp only at h2 h3; omega
      have hcap : f.dat.length ≤ f.c ∧ f.c ≤ maxLen := by obtain ⟨a1, cap1, e, q1, q2, _⟩ := csl; cases e; exact ⟨q1, q2⟩
      have hfc1 := hcap.1
      clear hcs hf hrd hsy hI hcap
      have HTAIL : Hid (∀ t : Nat, t ≤ f.dat.length → Calls Tryz.prog 69 #[.slice f.a t f.c] wr.drew.drew fun e w' => ∃ v', e = .returned v' ∧ Ow wr.heap.size w' v' (f.dat.take t) ∧ Below wr.heap.size wr w') := fun t ht => by
        refine (bytes_any wr.heap.size (.slice f.a t f.c) (f.dat.take t) wr.drew.drew ((csl.front t ht).below ⟨rfl, rfl, rfl, Nat.le_refl _, fun _ _ => rfl⟩) (Nat.le_refl _) (by simp only [List.length_take]; omega)).mono ?_
        rintro e w' ⟨v', rfl, h1, h2⟩
        exact ⟨v', rfl, h1, h2.os, h2.tape, h2.output, h2.size, h2.block⟩
      by_cases hln : f.nm = l
      · have hln' : (f.nm == l) = true := by simpa using hln
        obtain ⟨t, hte⟩ : ∃ t : Nat, crN true keep sy f.dat.length = t := ⟨_, rfl⟩
        have HT : Hid (t = crN (f.nm == l) keep sy f.dat.length) := by show t = _; rw [hln']; exact hte.symm
        have htl : t ≤ f.dat.length := by rw [← hte]; exact crN_le _ _ hsl
        have hw1 : IntKind.i64.wrap ((f.dat.length : Int) - (sy : Int)) = (f.dat.length : Int) - (sy : Int) := by rw [IntKind.wrap_i64]; omega
        have hw2 : IntKind.i64.wrap ((sy : Int) + min (max keep 0) ((f.dat.length : Int) - (sy : Int))) = (t : Int) := by rw [IntKind.wrap_i64, ← hte]; unfold crN; simp only [if_true]; omega
        have ht0 : (0 : Int) ≤ (t : Int) := by omega
        have htc : (t : Int) ≤ (f.c : Int) := by omega
        have hby := HTAIL.out t htl
        obtain ⟨dt, hdt⟩ : ∃ dt, f.dat.take t = dt := ⟨_, rfl⟩
        have HDT : Hid (f.dat.take t = dt) := hdt
        rw [hdt] at hby
        clear hdt hte hln csl
        go_wp2_with fail
        go_region_held3 (fun w' => w'.cell? ⟨B, 0, none⟩ = some (.slice (some ⟨g, 0, none⟩) fs.length cap) ∧ w'.cell? ⟨g, k * 3, none⟩ = some (.string ⟨f.nm.toArray⟩) ∧ w'.cell? ⟨B, 3, none⟩ = some (.string ⟨l.toArray⟩)) (go_keep) (fail)
        go_wp2_with fail
        go_region_law (first
          | (go_simp; go_at_call 69; refine hby.mono ?_; rintro e w3 ⟨v3, rfl, hO3, hB3⟩; obtain ⟨ba, bc, rfl, -, -⟩ := hO3.shape; have n0 := (hB3.cell (p := ⟨B, 0, none⟩) hBlt).trans m0; have n1 := (hB3.cell (p := ⟨g, k * 3 + 1, none⟩) hglt).trans c1; have n2 := (hB3.cell (p := ⟨g, k * 3 + 2, none⟩) hglt).trans c2; have n3 := (hB3.frozen (p := ⟨g, k * 3 + 1, none⟩) hglt).trans (hfz _); have n4 := (hB3.frozen (p := ⟨g, k * 3 + 2, none⟩) hglt).trans (hfz _))
          | fail)
        all_goals (
          have p0 : (w3.setCell ⟨g, k * 3 + 1, none⟩ (.slice ba dt.length bc)).cell? ⟨B, 0, none⟩ = some (.slice (some ⟨g, 0, none⟩) fs.length cap) := cell_other hgB n0
          have p2 : (w3.setCell ⟨g, k * 3 + 1, none⟩ (.slice ba dt.length bc)).cell? ⟨g, k * 3 + 2, none⟩ = some (.int .i64 (sy : Int)) := cell_beside (by omega) n2
          have p4 : (w3.setCell ⟨g, k * 3 + 1, none⟩ (.slice ba dt.length bc)).frozen? ⟨g, k * 3 + 2, none⟩ = false := (frozen_set _ _ _ _ _).trans n4
          clear n0 n1 n2 n3 n4 c0 c1 c2 m0 hfz
          go_wp2
          exact ⟨⟨k + 1, _, by go_num, by omega, CrI.step HI.out HG.out hgB hlt HF.out hB3 hO3 HDT.out.symm HSY.out HT.out⟩, by simp [intOf]; omega⟩)
      · have hln' : (f.nm == l) = false := by simpa using hln
        have HT : Hid (sy = crN (f.nm == l) keep sy f.dat.length) := by show sy = _; rw [hln']; rfl
        have ht0 : (0 : Int) ≤ (sy : Int) := by omega
        have htc : (sy : Int) ≤ (f.c : Int) := by omega
        have hby := HTAIL.out sy hsl
        obtain ⟨dt, hdt⟩ : ∃ dt, f.dat.take sy = dt := ⟨_, rfl⟩
        have HDT : Hid (f.dat.take sy = dt) := hdt
        rw [hdt] at hby
        clear hdt hln csl
        go_wp2_with fail
        go_region_held3 (fun w' => w'.cell? ⟨B, 0, none⟩ = some (.slice (some ⟨g, 0, none⟩) fs.length cap) ∧ w'.cell? ⟨g, k * 3, none⟩ = some (.string ⟨f.nm.toArray⟩) ∧ w'.cell? ⟨B, 3, none⟩ = some (.string ⟨l.toArray⟩)) (go_keep) (fail)
        go_wp2_with fail
        go_region_law (first
          | (go_simp; go_at_call 69; refine hby.mono ?_; rintro e w3 ⟨v3, rfl, hO3, hB3⟩; obtain ⟨ba, bc, rfl, -, -⟩ := hO3.shape; have n0 := (hB3.cell (p := ⟨B, 0, none⟩) hBlt).trans m0; have n1 := (hB3.cell (p := ⟨g, k * 3 + 1, none⟩) hglt).trans c1; have n2 := (hB3.cell (p := ⟨g, k * 3 + 2, none⟩) hglt).trans c2; have n3 := (hB3.frozen (p := ⟨g, k * 3 + 1, none⟩) hglt).trans (hfz _); have n4 := (hB3.frozen (p := ⟨g, k * 3 + 2, none⟩) hglt).trans (hfz _))
          | fail)
        all_goals (
          have p0 : (w3.setCell ⟨g, k * 3 + 1, none⟩ (.slice ba dt.length bc)).cell? ⟨B, 0, none⟩ = some (.slice (some ⟨g, 0, none⟩) fs.length cap) := cell_other hgB n0
          have p2 : (w3.setCell ⟨g, k * 3 + 1, none⟩ (.slice ba dt.length bc)).cell? ⟨g, k * 3 + 2, none⟩ = some (.int .i64 (sy : Int)) := cell_beside (by omega) n2
          have p4 : (w3.setCell ⟨g, k * 3 + 1, none⟩ (.slice ba dt.length bc)).frozen? ⟨g, k * 3 + 2, none⟩ = false := (frozen_set _ _ _ _ _).trans n4
          clear n0 n1 n2 n3 n4 c0 c1 c2 m0 hfz
          go_wp2
          exact ⟨⟨k + 1, _, by go_num, by omega, CrI.step HI.out HG.out hgB hlt HF.out hB3 hO3 HDT.out.symm HSY.out HT.out⟩, by simp [intOf]; omega⟩)
    · have hge : decide ((k : Int) < (fs.length : Int)) = false := by simp; omega
      obtain ⟨m0, m1, m2, m3, z0, z1, z2, z3⟩ := hI.rd.cells
      have HE : Hid (crI keep k p.fs = p.fs.map (crK keep)) := by
        show crI keep k p.fs = _
        have e1 := congrArg List.length (crI_nm keep k p.fs)
        have e2 := hI.rd.len
        have e3 := hI.len
        simp only [List.length_map] at e1
        simp only at e2
        unfold crI
        rw [List.take_of_length_le (by omega), List.drop_eq_nil_of_le (by omega), List.append_nil]
      clear hI
      go_wp2
      go_end0
      have hr := HI.out.rd
      rw [HE.out] at hr
      have hO2 : Out S w wr := HI.out.out.mono (fun i hi => by rw [hi]; exact HSG.out)
      exact ⟨rfl, crash_done HH.out HG.out hr hO2 HI.out.new (((Out.set (X := (· = B)) rfl).trans (Out.set (X := (· = B)) rfl) (fun i hi _ => hi)).trans (Out.set (X := (· = B)) rfl) (fun i hi _ => hi)) (by simpa using heap_set (heap_set (heap_set hr.hd 1 (.int .i64 0)) 2 (.bool false)) 3 (.string ⟨#[]⟩))⟩
end Go.Proofs.YtadajbdmlmickaaGreatDoor
namespace Go.Proofs.YtadajbdmlmickaaGreatDoor
open Go.RowKit Go.Shelf
set_option linter.unusedVariables false

/-- Both disks say the same, in memory from N on. -/
structure Bth (N : Nat) (S1 S2 : Nat → Prop) (w0 w : World) (d B : Nat) (q : PD) : Prop where
  dsk : Dsk N w S1 d q
  rds : RDs S2 w B q
  ap : ∀ j, S1 j → ¬ S2 j
  fr : ∀ j, S2 j → N ≤ j
  bel : Below N w0 w
  hN : N ≤ w0.heap.size
  good : Good q
theorem Bth.sz {N : Nat} {S1 S2 : Nat → Prop} {w0 w : World} {d B : Nat} {q : PD} (h : Bth N S1 S2 w0 w d B q) : N ≤ w.heap.size := Nat.le_trans h.hN h.bel.size
/-- Only new blocks were made. -/
theorem Bth.below {N : Nat} {S1 S2 : Nat → Prop} {w0 w w' : World} {d B : Nat} {q : PD} (h : Bth N S1 S2 w0 w d B q) (hB : Below w.heap.size w w') : Bth N S1 S2 w0 w' d B q :=
  ⟨h.dsk.below hB, h.rds.out (X := fun _ => False) (Out.of_below hB) (fun _ _ hf => hf), h.ap, h.fr, h.bel.trans (hB.mono h.sz), h.hN, h.good⟩
theorem Bth.drew {N : Nat} {S1 S2 : Nat → Prop} {w0 w : World} {d B : Nat} {q : PD} (h : Bth N S1 S2 w0 w d B q) : Bth N S1 S2 w0 w.drew d B q := h.below ⟨rfl, rfl, rfl, Nat.le_refl _, fun _ _ => rfl⟩
/-- Blocks outside both were turned. -/
theorem Bth.out {N : Nat} {S1 S2 X : Nat → Prop} {w0 w w' : World} {d B : Nat} {q : PD} (h : Bth N S1 S2 w0 w d B q) (hO : Out X w w') (h1 : ∀ i, S1 i → ¬ X i) (h2 : ∀ i, S2 i → ¬ X i) (hX : ∀ i, X i → N ≤ i) : Bth N S1 S2 w0 w' d B q :=
  ⟨h.dsk.out hO h1, h.rds.out hO h2, h.ap, h.fr, h.bel.trans (hO.below h.sz hX), h.hN, h.good⟩
theorem arm_fail (p : PD) : p.fail.arm ≤ p.arm := by unfold PD.fail; split <;> simp
theorem told_arm {p : PD} (h : p.arm ≤ 9223372036854775807) (o : Opn) (ho : o.n < 9223372036854775808) : (toldP p o).2.arm ≤ 9223372036854775807 := by
  have hf := arm_fail p
  unfold toldP
  split
  · unfold doCreate
    repeat' split
    all_goals (simp only; omega)
  split
  · unfold doAppend
    repeat' split
    all_goals (simp only; omega)
  split
  · unfold doSync
    repeat' split
    all_goals (simp only; omega)
  split
  · unfold doCut
    repeat' split
    all_goals (simp only; omega)
  split
  · unfold doRename
    repeat' split
    all_goals (simp only; omega)
  split
  · unfold doRemove
    repeat' split
    all_goals (simp only; omega)
  split
  · simp only; omega
  split
  · simp [doCrash]
  · simp only; omega
theorem good_told {N : Nat} {S : Nat → Prop} {w : World} {d : Nat} {p : PD} (hG : Good p) (o : Opn) (ho : o.n < 9223372036854775808) (h : Dsk N w S d (toldP p o).2) : Good (toldP p o).2 :=
  ⟨h.shape.1, told_names hG.nms o, h.shape.2.1, told_arm hG.arm o ho⟩
/-- The program's, then the document's. -/
theorem Bth.cd {N : Nat} {S1 S2 : Nat → Prop} {w0 w w5 w6 : World} {d B : Nat} {p p' : PD} (h : Bth N S1 S2 w0 w d B p) (hT : Then N S1 w w5 d p') (hO : Out S2 w5 w6) (hR : RDs (grew S2 w5 w6) w6 B p') (hg : Good p') : Bth N (grew S1 w w5) (grew S2 w5 w6) w0 w6 d B p' := by
  have hap : ∀ j, grew S1 w w5 j → ¬ grew S2 w5 w6 j := fun j hj hk => by
    rcases hk with hk | hk
    · rcases hj with hj | hj
      · exact h.ap j hj hk
      · have := h.rds.inn j hk; omega
    · have := hT.dsk.inn j hj; omega
  have h5 := Nat.le_trans h.sz hT.out.size
  exact ⟨hT.dsk.out hO (fun j hj hk => hap j hj (.inl hk)), hR, hap, fun j hj => hj.elim (h.fr j) (fun h9 => by omega), (h.bel.trans hT.bel).trans (hO.below h5 h.fr), h.hN, hg⟩
/-- The document's, then the program's. -/
theorem Bth.dc {N : Nat} {S1 S2 : Nat → Prop} {w0 w w5 w6 : World} {d B : Nat} {p p' : PD} (h : Bth N S1 S2 w0 w d B p) (hO : Out S2 w w5) (hR : RDs (grew S2 w w5) w5 B p') (hT : Then N S1 w5 w6 d p') (hg : Good p') : Bth N (grew S1 w5 w6) (grew S2 w w5) w0 w6 d B p' := by
  have hap : ∀ j, grew S1 w5 w6 j → ¬ grew S2 w w5 j := fun j hj hk => by
    rcases hj with hj | hj
    · rcases hk with hk | hk
      · exact h.ap j hj hk
      · have := h.dsk.inn j hj; omega
    · have := hR.inn j hk; omega
  have h5 := Nat.le_trans h.sz hO.size
  exact ⟨hT.dsk, hR.out hT.out (fun j hj hk => hap j (.inl hk) hj), hap, fun j hj => hj.elim (h.fr j) (fun h9 => by have := h.sz; omega), (h.bel.trans (hO.below h.sz h.fr)).trans hT.bel, h.hN, hg⟩
theorem done_then {N : Nat} {S : Nat → Prop} {w : World} {d : Nat} {F : Nat} {args : Array Value} {x : Nat × PD} (hS : ∀ i, S i → N ≤ i) (hN : N ≤ w.heap.size) (hc : Calls Tryz.prog F args w fun r w' => Done S w d x r w') : Calls Tryz.prog F args w fun r w' => r = .returned (.int .i64 (x.1 : Int)) ∧ Then N S w w' d x.2 := by
  refine hc.mono ?_
  rintro r w' ⟨k', rfl, hA, hp⟩
  exact ⟨rfl, Then.of hA hp hS hN⟩
/-- An operation of the program's disk, by its number. -/
theorem code_op {N : Nat} {S : Nat → Prop} {w : World} {d : Nat} {p : PD} (h : Dsk N w S d p) (hN : N ≤ w.heap.size) {F : Nat} {args : Array Value} {X : PD → Nat × PD} (hc : ∀ k, DkC S w d k → (∀ i, S i → N ≤ i) → Calls Tryz.prog F args w fun r w' => Done S w d (X k.pd) r w') : Calls Tryz.prog F args w fun r w' => r = .returned (.int .i64 ((X p).1 : Int)) ∧ Then N S w w' d (X p).2 := by
  obtain ⟨k, hk, rfl, hS⟩ := h
  exact done_then hS hN (hc k hk hS)
end Go.Proofs.YtadajbdmlmickaaGreatDoor
