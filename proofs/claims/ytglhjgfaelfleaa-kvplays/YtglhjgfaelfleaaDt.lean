/-
  The document's store: Get, and what a command does to the keys.
-/
import Derived.Test.YtglhjgfaelfleaaDs
import Derived.Test.YtglhjgfaelfleaaLp
namespace Go.Proofs.Ytglhjgfaelfleaa
open Go.RowKit
set_option linter.unusedVariables false

theorem below_set {N : Nat} {w W : World} {r o : Nat} {u : Value} (h : Below N w W) (hw : N ≤ W.heap.size) (hr : N ≤ r) : Below N w (W.setCell ⟨r, o, none⟩ u) := h.grown (grown_set W r o u) hw (fun k e => by cases e; exact hr)
theorem below_set2 {w W : World} {r o o' : Nat} {u u' : Value} (h : Below w.heap.size w W) (hr : w.heap.size ≤ r) : Below w.heap.size w ((W.setCell ⟨r, o, none⟩ u).setCell ⟨r, o', none⟩ u') :=
  below_set (below_set h h.size hr) (by rw [size_set]; exact h.size) hr

set_option maxRecDepth 100000 in
set_option maxHeartbeats 800000 in
theorem rget_any {N : Nat} {W : World} {d : Nat} {vp vs : Value} {K : KV} (h : DS N W d vp vs K) (key : Bs) :
    Calls Try.prog 15 #[.pointer (some ⟨d, 0, none⟩), .string ⟨key.toArray⟩] W fun e w' => e = .returned (getF K key).v ∧ Below W.heap.size W w' := by
  have HL := plc_look (key := key) h.ris
  have CA := fun V (hB : Below W.heap.size W V) => at_any (h.below hB) key
  have HCA : Hid (∀ V, Below W.heap.size W V → Calls _ _ _ V _) := CA
  have HD : Hid (DS N W d vp vs K) := h
  clear CA h
  obtain ⟨W1, HW1⟩ : ∃ W1, Hid (W.alloc (.cells #[.int .i64 0, .string ⟨[].toArray⟩] 33) = W1) := ⟨_, rfl⟩
  have HB1 : Hid (Below W.heap.size W W1) := by rw [← HW1.out]; exact (Below.refl _ _).alloc (Nat.le_refl _) _
  have HX1 : Hid (Rb W1 W.heap.size 0 []) := by rw [← HW1.out]; exact Rb.new _ _ _
  rcases HL with ⟨h1, hlt, h2, h3⟩ | ⟨h1, h3⟩
  · have hg : (getF K key).v = .agg #[.int .i64 1, .string ⟨K.ps[plc key K.ps].2.toArray⟩] := by unfold getF; rw [h3]; rfl
    rw [hg]
    rw [h1] at HCA
    clear hg h3
    obtain ⟨pa, pc, rfl, -, -⟩ := HD.out.rp.shape
    have hfew := HD.out.ok.few
    generalize plc key K.ps = k at *
    obtain ⟨p, hp0⟩ : ∃ p, K.ps[k] = p := ⟨_, rfl⟩
    obtain ⟨pk', pv⟩ := p
    have HP : Hid (K.ps[k] = (pk', pv)) := hp0
    clear hp0
    rw [HP.out]
    go_enter Try.func15, Try.ntmps15
    go_wp2_with fail
    rw [HW1.out]
    refine (HCA.out W1 HB1.out).mono ?_
    rintro e W2 ⟨rfl, hB2⟩
    have HB2 : Hid (Below W.heap.size W W2) := HB1.out.trans (hB2.mono HB1.out.size)
    have hb2 : Rb W2 W.heap.size 0 [] := HX1.out.below hB2
    have HX2 : Hid (Rb W2 W.heap.size 0 []) := hb2
    have hD2 := HD.out.below HB2.out
    obtain ⟨c0, c1⟩ := hD2.cells
    obtain ⟨m0, m1⟩ := hb2.cells
    obtain ⟨f0, f1⟩ := hb2.free
    obtain ⟨g, cp, hv, -, hgl, -, hcell⟩ := hD2.rp.at0 (by omega)
    cases hv
    have x1 := hcell k 1 hlt (by decide)
    have hlt' : (k : Int) < (K.ps.length : Int) := by omega
    have hi0 : (0 : Int) ≤ (k : Int) := by omega
    rw [HP.out] at x1
    have x1' : W2.cell? ⟨g, k * 2 + 1, none⟩ = some (.string ⟨pv.toArray⟩) := x1
    clear hcell x1 hD2 hB2 HB1 HX1 HW1 HCA hb2 h2
    go_wp2
    refine bodyPost_ret (v := .agg #[.int .i64 1, .string ⟨pv.toArray⟩]) (by simp [results, Try.results15, go_sem, m0, m1]) rfl ⟨rfl, ?_⟩
    exact below_set2 HB2.out (Nat.le_refl _)
  · have hg : (getF K key).v = .agg #[.int .i64 2, .string ⟨[].toArray⟩] := by unfold getF; rw [h3]; rfl
    rw [hg]
    rw [h1] at HCA
    clear hg h3
    generalize plc key K.ps = k at *
    go_enter Try.func15, Try.ntmps15
    go_wp2_with fail
    rw [HW1.out]
    refine (HCA.out W1 HB1.out).mono ?_
    rintro e W2 ⟨rfl, hB2⟩
    have HB2 : Hid (Below W.heap.size W W2) := HB1.out.trans (hB2.mono HB1.out.size)
    have hb2 : Rb W2 W.heap.size 0 [] := HX1.out.below hB2
    obtain ⟨m0, m1⟩ := hb2.cells
    obtain ⟨f0, f1⟩ := hb2.free
    clear hB2 HB1 HX1 HW1 HCA hb2
    go_wp2
    refine bodyPost_ret (v := .agg #[.int .i64 2, .string ⟨[].toArray⟩]) (by simp [results, Try.results15, go_sem, m0, m1]) rfl ⟨rfl, ?_⟩
    exact below_set2 HB2.out (Nat.le_refl _)
end Go.Proofs.Ytglhjgfaelfleaa
