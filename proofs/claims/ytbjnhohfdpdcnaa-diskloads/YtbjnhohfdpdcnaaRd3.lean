/-
  The document's disk: put.
-/
import Derived.Test.YtbjnhohfdpdcnaaRd2
namespace Go.Proofs.Ytbjnhohfdpdcnaa
open Go.RowKit Go.Shelf
set_option linter.unusedVariables false

theorem row_shape {w : World} {N s n : Nat} {e : TypeId} {v : Value} {x : List Value} (h : w.ownsRow N e s v n x) : ∃ a c, v = .slice a n c := by
  rcases h.2 with ⟨hv, h0⟩ | ⟨g, cap, cur, hv, r⟩
  · rw [h0]; exact ⟨_, _, hv⟩
  · exact ⟨_, _, hv⟩
theorem cell_three_new (w : World) (a b c : Value) (t : TypeId) : ∀ j u, [a, b, c][j]? = some u → (w.alloc (.cells #[a, b, c] t)).cell? ((⟨w.heap.size, 0, none⟩ : Addr).add j) = some u := by
  intro j u hj
  have hh := heap_alloc_new w (.cells #[a, b, c] t)
  rw [Addr.add_lit]
  simp only [World.cell?, hh, Nat.zero_add]
  simpa using hj
theorem row_out {X : Nat → Prop} {N s n : Nat} {e : TypeId} {w w' : World} {v : Value} {xs : List Value} (h : w.ownsRow N e s v n xs) (hO : Out X w w') (hx : ∀ g, v.ownBlock = some g → ¬ X g) : w'.ownsRow N e s v n xs := by
  refine ⟨h.1, ?_⟩
  rcases h.2 with h2 | ⟨g, cap, cur, rfl, hg, hb, r⟩
  · exact .inl h2
  · exact .inr ⟨g, cap, cur, rfl, hg, (hO.block g (Array.getElem?_eq_some_iff.1 hb).1 (hx g rfl)).trans hb, r⟩
theorem row_base {w : World} {N N' s n : Nat} {e : TypeId} {v : Value} {x : List Value} (h : w.ownsRow N e s v n x) (hN : N' ≤ N) : w.ownsRow N' e s v n x :=
  ⟨h.1, h.2.imp id (fun ⟨g, cap, cur, e, hg, r⟩ => ⟨g, cap, cur, e, Nat.le_trans hN hg, r⟩)⟩
theorem put_done {N : Nat} {w w3 : World} {B : Nat} {p : PD} {v v3 : Value} {fs : List Fl} {l : List UInt8} {fn : List UInt8} {fa : Option Addr} {fc : Nat} {fd : List UInt8} {fy : Int} {k : Nat} (h : RD N w B p v fs l) (hBlt : B < w.heap.size) (hN : N ≤ w.heap.size) (hx : Ow N w (.slice fa fd.length fc) fd) (hB3 : Below w.heap.size w w3)
    (hown3 : w3.ownsRow w.heap.size 37 3 v3 (k + 1 + (fs.length - k)) (cellsOf (fs.take k) ++ [.string ⟨fn.toArray⟩, .slice fa fd.length fc, .int .i64 fy] ++ cellsOf (fs.drop k))) (hK : spot fn fs = k) (hk : k ≤ fs.length) :
    (w3.setCell ⟨B, 0, none⟩ v3).heap[B]? = some (.cells #[v3, .int .i64 (p.arm : Int), .bool p.dn, .string ⟨l.toArray⟩] 30 (0, 0)) ∧ FilesIn N (w3.setCell ⟨B, 0, none⟩ v3) v3 (insF ⟨fn, fa, fc, fd, fy⟩ fs) ∧ Out (· = B) w (w3.setCell ⟨B, 0, none⟩ v3) ∧ ∀ g, v3.ownBlock = some g → w.heap.size ≤ g := by
  have hR3 := (hB3.block B hBlt).trans h.hd
  have hset : Out (· = B) w3 (w3.setCell ⟨B, 0, none⟩ v3) := Out.set rfl
  have e0 : insF ⟨fn, fa, fc, fd, fy⟩ fs = fs.take k ++ [⟨fn, fa, fc, fd, fy⟩] ++ fs.drop k := by have := insF_spot ⟨fn, fa, fc, fd, fy⟩ fs; simp only [hK] at this; exact this
  refine ⟨by simpa using heap_set hR3 0 v3, ⟨?_, ?_⟩, (Out.of_below hB3).trans hset (fun i hi _ => hi), fun g hg => (hown3.lt g hg).1⟩
  · rw [e0]
    have hlen : (fs.take k ++ [(⟨fn, fa, fc, fd, fy⟩ : Fl)] ++ fs.drop k).length = k + 1 + (fs.length - k) := by simp; omega
    rw [hlen]
    have := row_base (row_out hown3 hset (fun g hg e => by have := (hown3.lt g hg).1; omega)) hN
    simpa [cellsOf_append, cellsOf, Fl.cells, Fl.x] using this
  · intro f hf
    have hO : Ow N w f.x f.dat := by
      rw [e0] at hf
      rcases List.mem_append.1 hf with hf | hf
      · rcases List.mem_append.1 hf with hf | hf
        · exact h.fi.own f (List.mem_of_mem_take hf)
        · obtain rfl := List.mem_singleton.1 hf
          exact hx
      · exact h.fi.own f (List.mem_of_mem_drop hf)
    have hO3 := hO.below hB3 (Nat.le_refl _)
    exact hO3.out hset (fun g hg e => hO3.not_at hR3 (by decide) (by rw [hg, e]))
theorem drop_f {l : List Fl} {k : Nat} (h : k < l.length) : l.drop k = l.getD k nilFl :: l.drop (k + 1) := drop_fl h

set_option maxRecDepth 100000 in
set_option maxHeartbeats 8000000 in
theorem refPut_any {N : Nat} {w : World} {B : Nat} {p : PD} {v : Value} {fs : List Fl} {l : List UInt8} (h : RD N w B p v fs l) (fn : List UInt8) (fa : Option Addr) (fc : Nat) (fd : List UInt8) (fy : Int) (hx : Ow N w (.slice fa fd.length fc) fd) (hfw : fs.length < 256) (hN : N ≤ w.heap.size) (g cap : Nat) (hv : v = .slice (some ⟨g, 0, none⟩) fs.length cap) :
    Calls Try.prog 54 #[.pointer (some ⟨B, 0, none⟩), .agg #[.string ⟨fn.toArray⟩, .slice fa fd.length fc, .int .i64 fy]] w fun r w' => r = .returned (.tuple #[]) ∧ ∃ v', w'.heap[B]? = some (.cells #[v', .int .i64 (p.arm : Int), .bool p.dn, .string ⟨l.toArray⟩] 30 (0, 0)) ∧ FilesIn N w' v' (insF ⟨fn, fa, fc, fd, fy⟩ fs) ∧ Out (· = B) w w' ∧ ∀ g, v'.ownBlock = some g → w.heap.size ≤ g := by
  subst hv
  obtain ⟨a', c', hv, hc1, hc2, hF⟩ := h.fi.at
  cases hv
  have hBlt := h.lt
  have HF : Hid (FlsAt w.heap.size w (some ⟨g, 0, none⟩) fs) := hF
  have HH : Hid (RD N w B p (.slice (some ⟨g, 0, none⟩) fs.length cap) fs l) := h
  have HBC : Hid (∀ w', Below w.heap.size w w' → w'.cell? ⟨B, 0, none⟩ = some (.slice (some ⟨g, 0, none⟩) fs.length cap) ∧ w'.cell? ⟨B, 1, none⟩ = some (.int .i64 (p.arm : Int)) ∧ w'.cell? ⟨B, 2, none⟩ = some (.bool p.dn) ∧ w'.cell? ⟨B, 3, none⟩ = some (.string ⟨l.toArray⟩) ∧ w'.frozen? ⟨B, 0, none⟩ = false ∧ w'.heap[B]? = some (.cells #[.slice (some ⟨g, 0, none⟩) fs.length cap, .int .i64 (p.arm : Int), .bool p.dn, .string ⟨l.toArray⟩] 30 (0, 0))) := fun w' hB => by
    have hR := (hB.block B hBlt).trans h.hd
    exact ⟨by simp [World.cell?, hR], by simp [World.cell?, hR], by simp [World.cell?, hR], by simp [World.cell?, hR], by simp [World.frozen?, hR], hR⟩
  obtain ⟨W0, hW0⟩ : ∃ W0, w.alloc (.cells #[.string ⟨fn.toArray⟩, .slice fa fd.length fc, .int .i64 fy] 37) = W0 := ⟨_, rfl⟩
  have HW0 : Hid (w.alloc (.cells #[.string ⟨fn.toArray⟩, .slice fa fd.length fc, .int .i64 fy] 37) = W0) := hW0
  have HS0 : Hid (W0.heap.size = w.heap.size + 1) := by show W0.heap.size = _; rw [← hW0]; simp
  have HBw0 : Hid (Below w.heap.size w W0) := by show Below w.heap.size w W0; rw [← hW0]; exact (Below.refl _ w).alloc (Nat.le_refl _) _
  have HC : Hid (∀ w', Below W0.heap.size W0 w' → w'.cell? ⟨B, 0, none⟩ = some (.slice (some ⟨g, 0, none⟩) fs.length cap) ∧ w'.cell? ⟨B, 1, none⟩ = some (.int .i64 (p.arm : Int)) ∧ w'.cell? ⟨B, 2, none⟩ = some (.bool p.dn) ∧ w'.cell? ⟨B, 3, none⟩ = some (.string ⟨l.toArray⟩)) := fun w' hB => by
    obtain ⟨x0, x1, x2, x3, -⟩ := HBC.out w' (HBw0.out.trans (hB.mono (by have := HS0.out; omega)))
    exact ⟨x0, x1, x2, x3⟩
  have HFC : Hid (∀ w', Below W0.heap.size W0 w' → w'.cell? ⟨w.heap.size, 0, none⟩ = some (.string ⟨fn.toArray⟩) ∧ w'.cell? ⟨w.heap.size, 1, none⟩ = some (.slice fa fd.length fc) ∧ w'.cell? ⟨w.heap.size, 2, none⟩ = some (.int .i64 fy)) := fun w' hB => by
    have hh : W0.heap[w.heap.size]? = some (.cells #[.string ⟨fn.toArray⟩, .slice fa fd.length fc, .int .i64 fy] 37 (0, 0)) := by rw [← hW0]; exact heap_alloc_new w _
    have hR := (hB.block w.heap.size (by have := HS0.out; omega)).trans hh
    exact ⟨by simp [World.cell?, hR], by simp [World.cell?, hR], by simp [World.cell?, hR]⟩
  have HST : Hid (∀ w', Below w.heap.size w w' → ∀ k j u, (cellsOf (fs.take k))[j]? = some u → w'.cell? ⟨g, 0 + j, none⟩ = some u) := fun w' hB k j u hj => by
    have hlt : j < (cellsOf (fs.take k)).length := (List.getElem?_eq_some_iff.1 hj).1
    rcases HF.out.below hB with hz | ⟨b, off, e, hb, hc⟩
    · subst hz; simp [cellsOf] at hlt
    · cases e
      exact FlsAt.cellsAt (N := w.heap.size) (fs := fs.take k) (fun i hi => by rw [getD_take (by simp at hi; omega)]; exact hc i (by simp at hi; omega)) j u hj
  have HSR : Hid (∀ w', Below w.heap.size w w' → ∀ k j u, (cellsOf (fs.drop k))[j]? = some u → w'.cell? ⟨g, k * 3 + j, none⟩ = some u) := fun w' hB k j u hj => by
    have hlt : j < (cellsOf (fs.drop k)).length := (List.getElem?_eq_some_iff.1 hj).1
    rcases HF.out.below hB with hz | ⟨b, off, e, hb, hc⟩
    · subst hz; simp [cellsOf] at hlt
    · cases e
      exact FlsAt.cellsAt (N := w.heap.size) (fs := fs.drop k) (fun i hi => by rw [getD_drop]; have := hc (k + i) (by simp at hi; omega); rw [show k * 3 + i * 3 = 0 + (k + i) * 3 by omega]; exact this) j u hj
  obtain ⟨i0, hi, hz0, hz1, hz2⟩ := info_parts info37
  unfold maxLen at hc2
  clear h hF hW0
  go_enter Try.func54, Try.ntmps54
  go_wp2_with fail
  rw [HW0.out]
  go_loopw [4] (fun iv wr => ∃ (k : Nat), iv = .int .i64 (k : Int) ∧ k ≤ fs.length ∧ spot fn fs = k + spot fn (fs.drop k) ∧ Below W0.heap.size W0 wr) (fun iv _ => fs.length - (intOf iv).toNat)
  case atStart => exact ⟨0, rfl, Nat.zero_le _, by simp, Below.refl _ _⟩
  case round =>
    obtain ⟨k, rfl, hk, hsp, hB⟩ := hrel
    have HSP : Hid (spot fn fs = k + spot fn (fs.drop k)) := hsp
    have HB : Hid (Below W0.heap.size W0 wr) := hB
    obtain ⟨k0, z1, z2, z3⟩ := HC.out wr hB
    obtain ⟨f0, f1, f2⟩ := HFC.out wr hB
    clear hsp
    by_cases hlt : k < fs.length
    · obtain ⟨b, off, hea, hb, he⟩ := HF.out.at hlt
      cases hea
      obtain ⟨c0, c1, c2, -⟩ := he.below hb (HBw0.out.trans (hB.mono (by have := HS0.out; omega)))
      have HD : Hid (fs.drop k = fs.getD k nilFl :: fs.drop (k + 1)) := drop_f hlt
      generalize fs.getD k nilFl = q at *
      obtain ⟨qn, qa, qc, qd, qy⟩ := q
      unfold Fl.x at c1
      simp only [Nat.zero_add] at c0 c1 c2
      have hi1 : (k : Int) < (fs.length : Int) := by omega
      have hi1' : decide ((k : Int) < (fs.length : Int)) = true := by simpa using hlt
      have hi0 : (0 : Int) ≤ (k : Int) := by omega
      cases hls : Op.bytesLess qn fn
      · have HK : Hid (spot fn fs = k) := by show spot fn fs = k; rw [HSP.out, HD.out]; simp [spot, hls]
        clear hB
        go_wp2_with fail
        go_quiet (fail)
        clear c0 c1 c2 hi1 hi1'
        have j0 : (0 : Int) ≤ (k : Int) := by omega
        have j1 : (k : Int) ≤ (cap : Int) := by omega
        have j2 : (k : Int) ≤ (fs.length : Int) := by omega
        have j3 : (fs.length : Int) ≤ (cap : Int) := by omega
        have j4 : k ≤ cap := by omega
        have HBX : Hid (Below W0.heap.size W0 (wr.drewN nq)) := HB.out.trans ⟨rfl, rfl, rfl, Nat.le_refl _, fun _ _ => rfl⟩
        clear k0 z1 z2 z3 f0 f1 f2
        generalize wr.drewN nq = wx at *
        have hkn : k ≤ fs.length := by omega
        have hk256 : k ≤ 256 := by omega
        have hB0 := HBX.out
        have hs0 : w.heap.size ≤ wx.heap.size := by have := hB0.size; have := HS0.out; omega
        have hBw : Below w.heap.size w wx := HBw0.out.trans (hB0.mono (by have := HS0.out; omega))
        obtain ⟨k0, z1, z2, z3⟩ := HC.out (wx.alloc (.cells #[] 37)) (hB0.alloc hB0.size _)
        have hown0 : (wx.alloc (.cells #[] 37)).ownsRow w.heap.size 37 3 (.slice (some ⟨wx.heap.size, 0, none⟩) 0 0) 0 [] := ⟨rfl, .inr ⟨wx.heap.size, 0, #[], rfl, hs0, heap_alloc_new wx _, Nat.le_refl _, by unfold maxLen; omega, rfl, rfl⟩⟩
        have hbe : ∀ w1, (wx.alloc (.cells #[] 37)).grownBy w1 (some wx.heap.size) → Below wx.heap.size wx w1 := fun w1 hg => ((Below.refl _ wx).alloc (Nat.le_refl _) _).grown hg (by simp) (fun j e => by cases e; exact Nat.le_refl _)
        go_wp2_with (first
          | (at_builtin; refine wpList_append_own _ rfl _ _ 28 rfl w.heap.size 37 i0 _ 3 48 Try.underlying28 hi hz0 hz1 hz2 rfl (by decide) _ k (cellsOf (fs.take k)) rfl (hown1.alloc _) ⟨w1.heap.size, 0, none⟩ 1 1 [.string ⟨fn.toArray⟩, .slice fa fd.length fc, .int .i64 fy] rfl rfl (cell_three_new _ _ _ _ _) (by intro u hu; simp at hu; rcases hu with rfl | rfl | rfl <;> rfl) (by unfold maxLen; omega) (by omega) (by have := hB1.size; simp; omega) ?_; intro v2 w2 hown2 hg2 _; have hB2 : Below w.heap.size w w2 := (hB1.alloc hB1.size _).grown hg2 (by have := hB1.size; simp; omega) (fun j e => (hown1.lt j e).1); obtain ⟨x0, x1, x2, x3, -⟩ := HBC.out w2 hB2; have hsrc3 := HSR.out w2 hB2 k; obtain ⟨a2, c2, rfl⟩ := row_shape hown2)
          | (at_builtin; refine wpList_append_own _ rfl _ _ 28 rfl w.heap.size 37 i0 _ 3 48 Try.underlying28 hi hz0 hz1 hz2 rfl (by decide) _ 0 [] rfl hown0 ⟨g, 0, none⟩ k cap (cellsOf (fs.take k)) rfl (by rw [cellsOf_len]; simp; omega) (fun j u hj => by rw [Addr.add_lit]; simpa using HST.out (wx.alloc (.cells #[] 37)) (hBw.alloc hs0 _) k j u hj) cellsOf_one (by unfold maxLen; omega) (by omega) (by simp; omega) ?_; intro v1 w1 hown1 hg1 _; have hbe1 := hbe w1 hg1; have hB1 : Below w.heap.size w w1 := hBw.trans (hbe1.mono hs0); obtain ⟨x0, x1, x2, x3, -⟩ := HBC.out w1 hB1; obtain ⟨f0, f1, f2⟩ := HFC.out w1 (hB0.trans (hbe1.mono hB0.size)); rw [Nat.zero_add, List.nil_append] at hown1; obtain ⟨a1, c1, rfl⟩ := row_shape hown1)
          | (at_builtin; refine wpList_append_own _ rfl _ _ 28 rfl w.heap.size 37 i0 _ 3 48 Try.underlying28 hi hz0 hz1 hz2 rfl (by decide) _ (k + 1) _ rfl hown2 ⟨g, k * 3, none⟩ (fs.length - k) _ (cellsOf (fs.drop k)) rfl (by rw [cellsOf_len]; simp) (fun j u hj => by rw [Addr.add_lit]; exact hsrc3 j u hj) cellsOf_one (by unfold maxLen; omega) (by omega) (by have := hB2.size; omega) ?_; intro v3 w3 hown3 hg3 _; have hB3 : Below w.heap.size w w3 := hB2.grown hg3 hB2.size (fun j e => (hown2.lt j e).1); have y0 := (HBC.out w3 hB3).1; have y4 := (HBC.out w3 hB3).2.2.2.2.1; obtain ⟨a3, c3, rfl⟩ := row_shape hown3))
        go_end0
        exact ⟨rfl, _, put_done HH.out hBlt hN hx hB3 hown3 HK.out hkn⟩
      · have HK : Hid (spot fn fs = k + 1 + spot fn (fs.drop (k + 1))) := by show spot fn fs = _; rw [HSP.out, HD.out]; simp [spot, hls]; omega
        clear hB
        go_wp2_with fail
        go_quiet (fail)
        go_wp2
        exact ⟨⟨k + 1, by go_num, by omega, HK.out, HB.out.trans ⟨rfl, rfl, rfl, Nat.le_refl _, fun _ _ => rfl⟩⟩, by simp [intOf]; omega⟩
    · have hi1' : decide ((k : Int) < (fs.length : Int)) = false := by simp; omega
      have HK : Hid (spot fn fs = k) := by show spot fn fs = k; rw [HSP.out, List.drop_eq_nil_of_le (by omega)]; rfl
      clear hB
      go_wp2_with fail
      go_quiet (fail)
      clear hi1'
      by_cases hcz : cap = k
      · have hcz2 : k = cap := hcz.symm
        clear hcz
        subst hcz2
        have j0 : (0 : Int) ≤ (k : Int) := by omega
        have j1 : (k : Int) ≤ (k : Int) := by omega
        have j2 : (k : Int) ≤ (fs.length : Int) := by omega
        have j3 : (fs.length : Int) ≤ (k : Int) := by omega
        have j4 : k ≤ k := by omega
        have HBX : Hid (Below W0.heap.size W0 (wr.drewN nq)) := HB.out.trans ⟨rfl, rfl, rfl, Nat.le_refl _, fun _ _ => rfl⟩
        clear k0 z1 z2 z3 f0 f1 f2
        generalize wr.drewN nq = wx at *
        have hkn : k ≤ fs.length := by omega
        have hk256 : k ≤ 256 := by omega
        have hB0 := HBX.out
        have hs0 : w.heap.size ≤ wx.heap.size := by have := hB0.size; have := HS0.out; omega
        have hBw : Below w.heap.size w wx := HBw0.out.trans (hB0.mono (by have := HS0.out; omega))
        obtain ⟨k0, z1, z2, z3⟩ := HC.out (wx.alloc (.cells #[] 37)) (hB0.alloc hB0.size _)
        have hown0 : (wx.alloc (.cells #[] 37)).ownsRow w.heap.size 37 3 (.slice (some ⟨wx.heap.size, 0, none⟩) 0 0) 0 [] := ⟨rfl, .inr ⟨wx.heap.size, 0, #[], rfl, hs0, heap_alloc_new wx _, Nat.le_refl _, by unfold maxLen; omega, rfl, rfl⟩⟩
        have hbe : ∀ w1, (wx.alloc (.cells #[] 37)).grownBy w1 (some wx.heap.size) → Below wx.heap.size wx w1 := fun w1 hg => ((Below.refl _ wx).alloc (Nat.le_refl _) _).grown hg (by simp) (fun j e => by cases e; exact Nat.le_refl _)
        go_wp2_with (first
          | (at_builtin; refine wpList_append_own _ rfl _ _ 28 rfl w.heap.size 37 i0 _ 3 48 Try.underlying28 hi hz0 hz1 hz2 rfl (by decide) _ k (cellsOf (fs.take k)) rfl (hown1.alloc _) ⟨w1.heap.size, 0, none⟩ 1 1 [.string ⟨fn.toArray⟩, .slice fa fd.length fc, .int .i64 fy] rfl rfl (cell_three_new _ _ _ _ _) (by intro u hu; simp at hu; rcases hu with rfl | rfl | rfl <;> rfl) (by unfold maxLen; omega) (by omega) (by have := hB1.size; simp; omega) ?_; intro v2 w2 hown2 hg2 _; have hB2 : Below w.heap.size w w2 := (hB1.alloc hB1.size _).grown hg2 (by have := hB1.size; simp; omega) (fun j e => (hown1.lt j e).1); obtain ⟨x0, x1, x2, x3, -⟩ := HBC.out w2 hB2; have hsrc3 := HSR.out w2 hB2 k; obtain ⟨a2, c2, rfl⟩ := row_shape hown2)
          | (at_builtin; refine wpList_append_own _ rfl _ _ 28 rfl w.heap.size 37 i0 _ 3 48 Try.underlying28 hi hz0 hz1 hz2 rfl (by decide) _ 0 [] rfl hown0 ⟨g, 0, none⟩ k k (cellsOf (fs.take k)) rfl (by rw [cellsOf_len]; simp; omega) (fun j u hj => by rw [Addr.add_lit]; simpa using HST.out (wx.alloc (.cells #[] 37)) (hBw.alloc hs0 _) k j u hj) cellsOf_one (by unfold maxLen; omega) (by omega) (by simp; omega) ?_; intro v1 w1 hown1 hg1 _; have hbe1 := hbe w1 hg1; have hB1 : Below w.heap.size w w1 := hBw.trans (hbe1.mono hs0); obtain ⟨x0, x1, x2, x3, -⟩ := HBC.out w1 hB1; obtain ⟨f0, f1, f2⟩ := HFC.out w1 (hB0.trans (hbe1.mono hB0.size)); rw [Nat.zero_add, List.nil_append] at hown1; obtain ⟨a1, c1, rfl⟩ := row_shape hown1)
          | (at_builtin; refine wpList_append_own _ rfl _ _ 28 rfl w.heap.size 37 i0 _ 3 48 Try.underlying28 hi hz0 hz1 hz2 rfl (by decide) _ (k + 1) _ rfl hown2 _ 0 _ [] rfl rfl (fun j u hj => by simp at hj) (by simp) (by unfold maxLen; omega) (by omega) (by have := hB2.size; omega) ?_; intro v3 w3 hown3 hg3 _; have hB3 : Below w.heap.size w w3 := hB2.grown hg3 hB2.size (fun j e => (hown2.lt j e).1); have y0 := (HBC.out w3 hB3).1; have y4 := (HBC.out w3 hB3).2.2.2.2.1; obtain ⟨a3, c3, rfl⟩ := row_shape hown3))
        go_end0
        exact ⟨rfl, _, put_done HH.out hBlt hN hx hB3 (v3 := _) (by rw [show fs.length - k = 0 by omega, List.drop_eq_nil_of_le (show fs.length ≤ k by omega)]; exact hown3) HK.out hkn⟩
      · have j5 : k < cap := by omega
        have j6 : ¬ cap - k = 0 := by omega
        have j7 : ¬ cap ≤ k := by omega
        have j0 : (0 : Int) ≤ (k : Int) := by omega
        have j1 : (k : Int) ≤ (cap : Int) := by omega
        have j2 : (k : Int) ≤ (fs.length : Int) := by omega
        have j3 : (fs.length : Int) ≤ (cap : Int) := by omega
        have j4 : k ≤ cap := by omega
        have HBX : Hid (Below W0.heap.size W0 (wr.drewN nq)) := HB.out.trans ⟨rfl, rfl, rfl, Nat.le_refl _, fun _ _ => rfl⟩
        clear k0 z1 z2 z3 f0 f1 f2
        generalize wr.drewN nq = wx at *
        have hkn : k ≤ fs.length := by omega
        have hk256 : k ≤ 256 := by omega
        have hB0 := HBX.out
        have hs0 : w.heap.size ≤ wx.heap.size := by have := hB0.size; have := HS0.out; omega
        have hBw : Below w.heap.size w wx := HBw0.out.trans (hB0.mono (by have := HS0.out; omega))
        obtain ⟨k0, z1, z2, z3⟩ := HC.out (wx.alloc (.cells #[] 37)) (hB0.alloc hB0.size _)
        have hown0 : (wx.alloc (.cells #[] 37)).ownsRow w.heap.size 37 3 (.slice (some ⟨wx.heap.size, 0, none⟩) 0 0) 0 [] := ⟨rfl, .inr ⟨wx.heap.size, 0, #[], rfl, hs0, heap_alloc_new wx _, Nat.le_refl _, by unfold maxLen; omega, rfl, rfl⟩⟩
        have hbe : ∀ w1, (wx.alloc (.cells #[] 37)).grownBy w1 (some wx.heap.size) → Below wx.heap.size wx w1 := fun w1 hg => ((Below.refl _ wx).alloc (Nat.le_refl _) _).grown hg (by simp) (fun j e => by cases e; exact Nat.le_refl _)
        go_wp2_with (first
          | (at_builtin; refine wpList_append_own _ rfl _ _ 28 rfl w.heap.size 37 i0 _ 3 48 Try.underlying28 hi hz0 hz1 hz2 rfl (by decide) _ k (cellsOf (fs.take k)) rfl (hown1.alloc _) ⟨w1.heap.size, 0, none⟩ 1 1 [.string ⟨fn.toArray⟩, .slice fa fd.length fc, .int .i64 fy] rfl rfl (cell_three_new _ _ _ _ _) (by intro u hu; simp at hu; rcases hu with rfl | rfl | rfl <;> rfl) (by unfold maxLen; omega) (by omega) (by have := hB1.size; simp; omega) ?_; intro v2 w2 hown2 hg2 _; have hB2 : Below w.heap.size w w2 := (hB1.alloc hB1.size _).grown hg2 (by have := hB1.size; simp; omega) (fun j e => (hown1.lt j e).1); obtain ⟨x0, x1, x2, x3, -⟩ := HBC.out w2 hB2; have hsrc3 := HSR.out w2 hB2 k; obtain ⟨a2, c2, rfl⟩ := row_shape hown2)
          | (at_builtin; refine wpList_append_own _ rfl _ _ 28 rfl w.heap.size 37 i0 _ 3 48 Try.underlying28 hi hz0 hz1 hz2 rfl (by decide) _ 0 [] rfl hown0 ⟨g, 0, none⟩ k cap (cellsOf (fs.take k)) rfl (by rw [cellsOf_len]; simp; omega) (fun j u hj => by rw [Addr.add_lit]; simpa using HST.out (wx.alloc (.cells #[] 37)) (hBw.alloc hs0 _) k j u hj) cellsOf_one (by unfold maxLen; omega) (by omega) (by simp; omega) ?_; intro v1 w1 hown1 hg1 _; have hbe1 := hbe w1 hg1; have hB1 : Below w.heap.size w w1 := hBw.trans (hbe1.mono hs0); obtain ⟨x0, x1, x2, x3, -⟩ := HBC.out w1 hB1; obtain ⟨f0, f1, f2⟩ := HFC.out w1 (hB0.trans (hbe1.mono hB0.size)); rw [Nat.zero_add, List.nil_append] at hown1; obtain ⟨a1, c1, rfl⟩ := row_shape hown1)
          | (at_builtin; refine wpList_append_own _ rfl _ _ 28 rfl w.heap.size 37 i0 _ 3 48 Try.underlying28 hi hz0 hz1 hz2 rfl (by decide) _ (k + 1) _ rfl hown2 ⟨g, k * 3, none⟩ (fs.length - k) _ (cellsOf (fs.drop k)) rfl (by rw [cellsOf_len]; simp) (fun j u hj => by rw [Addr.add_lit]; exact hsrc3 j u hj) cellsOf_one (by unfold maxLen; omega) (by omega) (by have := hB2.size; omega) ?_; intro v3 w3 hown3 hg3 _; have hB3 : Below w.heap.size w w3 := hB2.grown hg3 hB2.size (fun j e => (hown2.lt j e).1); have y0 := (HBC.out w3 hB3).1; have y4 := (HBC.out w3 hB3).2.2.2.2.1; obtain ⟨a3, c3, rfl⟩ := row_shape hown3))
        go_end0
        exact ⟨rfl, _, put_done HH.out hBlt hN hx hB3 hown3 HK.out hkn⟩
end Go.Proofs.Ytbjnhohfdpdcnaa
