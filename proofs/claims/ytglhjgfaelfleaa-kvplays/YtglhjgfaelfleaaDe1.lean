/-
  The document's store: what a command does to the keys.
-/
import Derived.Test.YtglhjgfaelfleaaDe0
namespace Go.Proofs.Ytglhjgfaelfleaa
open Go.RowKit
set_option linter.unusedVariables false

set_option maxRecDepth 100000 in
set_option maxHeartbeats 800000 in
theorem rd_full {N : Nat} {W : World} {d : Nat} {vp vs : Value} {K : KV} (h : DS N W d vp vs K) (hN : N ≤ W.heap.size) (op cl sq : Int) (ky vl od : Bs) (hth : atP ky K.ps = false) (h2 : op = 2) (hfl : 128 ≤ K.ps.length) :
    Calls Try.prog 30 #[.pointer (some ⟨d, 0, none⟩), .agg #[.int .i64 op, .int .i64 cl, .int .i64 sq, .string ⟨ky.toArray⟩, .string ⟨vl.toArray⟩, .string ⟨od.toArray⟩]] W fun e w' => DoR N W d vp vs K (K.ps, ⟨5, []⟩) e w' := by
  have HCA : Hid (∀ V, Below W.heap.size W V → Calls Try.prog 31 #[.pointer (some ⟨d, 0, none⟩), .string ⟨ky.toArray⟩] V fun e w' => e = .returned (.tuple #[.int .i64 (plc ky K.ps : Int), .bool (atP ky K.ps)]) ∧ Below V.heap.size V w') := fun V hB => at_any (h.below hB) ky
  rw [hth] at HCA
  have HD : Hid (DS N W d vp vs K) := h
  have hfew := h.ok.few
  have hpl := plc_le ky K.ps
  obtain ⟨pa, pc, rfl, -, -⟩ := h.rp.shape
  have HNN : Hid (N ≤ W.heap.size) := hN
  clear h hN hth
  obtain ⟨W1, HW1⟩ : ∃ W1, Hid ((W.alloc (.cells #[.int .i64 op, .int .i64 cl, .int .i64 sq, .string ⟨ky.toArray⟩, .string ⟨vl.toArray⟩, .string ⟨od.toArray⟩] 38)).alloc (.cells #[.int .i64 0, .string ⟨[].toArray⟩] 33) = W1) := ⟨_, rfl⟩
  have HB1 : Hid (Below W.heap.size W W1) := by rw [← HW1.out]; exact Below.alloc' (Below.alloc' (Below.refl _ _) _) _
  have HC1 : Hid (Dc W1 W.heap.size op cl sq ky vl od) := by rw [← HW1.out]; exact Dc.below (heap_alloc_new W _) ((Below.refl _ _).alloc (Nat.le_refl _) _)
  have HX1 : Hid (Rb W1 (W.heap.size + 1) 0 []) := by rw [← HW1.out]; exact box2 W _ _
  subst h2
  have hfl' : (128 : Int) ≤ (K.ps.length : Int) := by omega
  generalize plc ky K.ps = k at *
  go_enter Try.func30, Try.ntmps30
  go_wp2_with fail
  rw [HW1.out]
  refine (HCA.out W1 HB1.out).mono ?_
  rintro e W2 ⟨rfl, hB2⟩
  have HB2 : Hid (Below W.heap.size W W2) := HB1.out.trans (hB2.mono HB1.out.size)
  have hb2 : Rb W2 (W.heap.size + 1) 0 [] := HX1.out.below hB2
  have HX2 : Hid (Rb W2 (W.heap.size + 1) 0 []) := hb2
  have HC2 : Hid (Dc W2 W.heap.size _ cl sq ky vl _) := HC1.out.below hB2
  obtain ⟨m0, m1⟩ := hb2.cells
  obtain ⟨f0, f1⟩ := hb2.free
  obtain ⟨a0, a1, a2, a3, a4, a5⟩ := HC2.out.cells
  dsimp only at a0 a1 a2 a3 a4 a5
  have HD2 : Hid (DS N W2 d _ vs _) := HD.out.below HB2.out
  obtain ⟨c0, c1⟩ := HD2.out.cells
  have lr : W.heap.size + 1 < W2.heap.size := (Array.getElem?_eq_some_iff.1 hb2).1
  have ld : d < W2.heap.size := (Array.getElem?_eq_some_iff.1 HD2.out.hd).1
  have lw : W.heap.size < W2.heap.size := by omega
  have hd0 : d < W.heap.size := (Array.getElem?_eq_some_iff.1 HD.out.hd).1
  have hdn : ¬ d = W.heap.size + 1 := by omega
  have hdn' : ¬ W.heap.size + 1 = d := by omega
  clear hB2 HB1 HX1 HW1 HCA hb2 HC1
  go_wp2
  refine bodyPost_ret (v := .agg #[.int .i64 5, .string ⟨[].toArray⟩]) (by simp [results, Try.results30, go_sem, m0, m1]) rfl ?_
  exact DoR.keep HD.out (below_set2 HB2.out (by omega))

set_option maxRecDepth 100000 in
set_option maxHeartbeats 800000 in
theorem rd_none {N : Nat} {W : World} {d : Nat} {vp vs : Value} {K : KV} (h : DS N W d vp vs K) (hN : N ≤ W.heap.size) (op cl sq : Int) (ky vl od : Bs) (hth : atP ky K.ps = false) (h2 : ¬ op = 2) :
    Calls Try.prog 30 #[.pointer (some ⟨d, 0, none⟩), .agg #[.int .i64 op, .int .i64 cl, .int .i64 sq, .string ⟨ky.toArray⟩, .string ⟨vl.toArray⟩, .string ⟨od.toArray⟩]] W fun e w' => DoR N W d vp vs K (K.ps, ⟨2, []⟩) e w' := by
  have HCA : Hid (∀ V, Below W.heap.size W V → Calls Try.prog 31 #[.pointer (some ⟨d, 0, none⟩), .string ⟨ky.toArray⟩] V fun e w' => e = .returned (.tuple #[.int .i64 (plc ky K.ps : Int), .bool (atP ky K.ps)]) ∧ Below V.heap.size V w') := fun V hB => at_any (h.below hB) ky
  rw [hth] at HCA
  have HD : Hid (DS N W d vp vs K) := h
  have hfew := h.ok.few
  have hpl := plc_le ky K.ps
  obtain ⟨pa, pc, rfl, -, -⟩ := h.rp.shape
  have HNN : Hid (N ≤ W.heap.size) := hN
  clear h hN hth
  obtain ⟨W1, HW1⟩ : ∃ W1, Hid ((W.alloc (.cells #[.int .i64 op, .int .i64 cl, .int .i64 sq, .string ⟨ky.toArray⟩, .string ⟨vl.toArray⟩, .string ⟨od.toArray⟩] 38)).alloc (.cells #[.int .i64 0, .string ⟨[].toArray⟩] 33) = W1) := ⟨_, rfl⟩
  have HB1 : Hid (Below W.heap.size W W1) := by rw [← HW1.out]; exact Below.alloc' (Below.alloc' (Below.refl _ _) _) _
  have HC1 : Hid (Dc W1 W.heap.size op cl sq ky vl od) := by rw [← HW1.out]; exact Dc.below (heap_alloc_new W _) ((Below.refl _ _).alloc (Nat.le_refl _) _)
  have HX1 : Hid (Rb W1 (W.heap.size + 1) 0 []) := by rw [← HW1.out]; exact box2 W _ _
  have h2' : (op == 2) = false := by simpa using h2
  clear h2
  generalize plc ky K.ps = k at *
  go_enter Try.func30, Try.ntmps30
  go_wp2_with fail
  rw [HW1.out]
  refine (HCA.out W1 HB1.out).mono ?_
  rintro e W2 ⟨rfl, hB2⟩
  have HB2 : Hid (Below W.heap.size W W2) := HB1.out.trans (hB2.mono HB1.out.size)
  have hb2 : Rb W2 (W.heap.size + 1) 0 [] := HX1.out.below hB2
  have HX2 : Hid (Rb W2 (W.heap.size + 1) 0 []) := hb2
  have HC2 : Hid (Dc W2 W.heap.size _ cl sq ky vl _) := HC1.out.below hB2
  obtain ⟨m0, m1⟩ := hb2.cells
  obtain ⟨f0, f1⟩ := hb2.free
  obtain ⟨a0, a1, a2, a3, a4, a5⟩ := HC2.out.cells
  dsimp only at a0 a1 a2 a3 a4 a5
  have HD2 : Hid (DS N W2 d _ vs _) := HD.out.below HB2.out
  obtain ⟨c0, c1⟩ := HD2.out.cells
  have lr : W.heap.size + 1 < W2.heap.size := (Array.getElem?_eq_some_iff.1 hb2).1
  have ld : d < W2.heap.size := (Array.getElem?_eq_some_iff.1 HD2.out.hd).1
  have lw : W.heap.size < W2.heap.size := by omega
  have hd0 : d < W.heap.size := (Array.getElem?_eq_some_iff.1 HD.out.hd).1
  have hdn : ¬ d = W.heap.size + 1 := by omega
  have hdn' : ¬ W.heap.size + 1 = d := by omega
  clear hB2 HB1 HX1 HW1 HCA hb2 HC1
  go_wp2
  refine bodyPost_ret (v := .agg #[.int .i64 2, .string ⟨[].toArray⟩]) (by simp [results, Try.results30, go_sem, m0, m1]) rfl ?_
  exact DoR.keep HD.out (below_set2 HB2.out (by omega))

end Go.Proofs.Ytglhjgfaelfleaa
