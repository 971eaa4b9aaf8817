/-
  The texts of which the document fixes all: 'first' is true.
-/
import Derived.Test.YtfnnbfgfmbiababMsgP1
import Derived.Test.YtfnnbfgfmbiababPutB
import Derived.Test.YtfnnbfgfmbiababPutA
import Derived.Lib.SlBytesConst
namespace Go.Proofs.Ytfnnbfgfmbiabab
open Go.RowKit Go.Shelf

theorem tx1 : txEntry 3 300 1 [97, 98] = [3, 172, 2, 1, 2, 97, 98] := by decide +kernel
theorem tx2 : txState 5 2 9 = [5, 2, 9] := by decide +kernel
theorem tx3 : txM1 1 2 4 7 3 = [1, 1, 2, 4, 7, 3] := by decide +kernel
theorem ck1 : ckEntry 3 300 1 2 = 0 := by decide +kernel
theorem ck2 : ckState 5 2 9 = 0 := by decide +kernel
theorem ck3 : ckM1 1 2 4 7 3 0 0 0 false 0 0 0 0 = 0 := by decide +kernel
theorem ck4 : ckState 0 1 0 = 4 := by decide +kernel

theorem sl_marked (w : World) (l : List UInt8) (c : Array Value) (z : Nat × Nat) (hm : l.length ≤ 1000) (hc : c.toList = l.map encB) : Sl (w.heap.size + 1) (w.alloc (.cells c 5 z)) (.slice (some ⟨w.heap.size, 0, none⟩) l.length l.length) l := by
  refine ⟨_, _, rfl, Nat.le_refl _, by unfold maxLen; omega, .inr ⟨_, _, rfl, by omega, fun i hi => ?_⟩⟩
  have h : (w.alloc (.cells c 5 z)).heap[w.heap.size]? = some (.cells c 5 z) := World.alloc_heap_new w _
  simp only [World.cell?, h, Nat.zero_add]
  have : c.toList[i]? = (l.map encB)[i]? := by rw [hc]
  rw [List.getElem?_map, List.getElem?_eq_getElem hi] at this
  simpa [hi] using this
theorem below_drewN {N : Nat} {w w1 : World} (h : Below N w w1) (n : Nat) : Below N w (w1.drewN n) := h.trans ⟨rfl, rfl, rfl, Nat.le_refl _, fun _ _ => rfl⟩

set_option maxRecDepth 100000 in
set_option maxHeartbeats 8000000 in
theorem first_any (w : World) : Calls Try.prog 8 #[] w fun e w' => e = .returned (.bool true) ∧ Below w.heap.size w w' := by
  go_enter Try.func8, Try.ntmps8
  have hcv := fun (w : World) (C : Array Value) (n c : Nat) => Lib.run_convert_bytes_const (P := Try.prog) w 23 5 C n c Try.underlying23 Try.underlying5
  go_wp2_with fail
  clear hcv
  have hs1 := sl_marked w [97, 98] #[.int .u8 97, .int .u8 98] (2, 3) (by simp) (by rfl)
  refine (putEntry_any 3 300 1 [97, 98] _ _ _ _ hs1 (by simp)).mono ?_
  rintro e w1 ⟨v1, rfl, hO1, hB1⟩
  rw [show ([97, 98] : List UInt8).length = 2 from rfl, ck1] at *
  rw [if_pos rfl, tx1] at hO1
  obtain ⟨a1, c1, rfl, -, -⟩ := hO1.shape
  have hz1 := hB1.size
  simp only [World.size_alloc] at hz1
  have HB1 : Hid (Below w.heap.size w w1) := ((Below.refl _ w).alloc (Nat.le_refl _) _).trans (hB1.mono (by simp))
  have HO1 : Hid (Ow w.heap.size w1 (.slice a1 7 c1) [3, 172, 2, 1, 2, 97, 98]) := hO1.base (by simp)
  clear hB1 hs1 hO1
  go_wp2_with fail
  refine (putState_any 5 2 9 w1).mono ?_
  rintro e w2 ⟨v2, rfl, hO2, hB2⟩
  rw [ck2]
  rw [ck2, if_pos rfl, tx2] at hO2
  obtain ⟨a2, c2, rfl, -, -⟩ := hO2.shape
  have hz2 := hB2.size
  have HB2 : Hid (Below w.heap.size w w2) := HB1.out.trans (hB2.mono (by omega))
  have HO12 : Hid (Ow w.heap.size w2 (.slice a1 7 c1) [3, 172, 2, 1, 2, 97, 98]) := HO1.out.below hB2 (Nat.le_refl _)
  have HO2 : Hid (Ow w.heap.size w2 (.slice a2 3 c2) [5, 2, 9]) := hO2.base (by omega)
  clear hB2 hO2 HO1
  go_wp2_with fail
  refine (ckState_any 0 1 0 w2).mono ?_
  rintro e w3 ⟨rfl, hB3⟩
  rw [ck4]
  have hz3 := hB3.size
  have HB3 : Hid (Below w.heap.size w w3) := HB2.out.trans (hB3.mono (by omega))
  have HO13 : Hid (Ow w.heap.size w3 (.slice a1 7 c1) [3, 172, 2, 1, 2, 97, 98]) := HO12.out.below hB3 (Nat.le_refl _)
  have HO23 : Hid (Ow w.heap.size w3 (.slice a2 3 c2) [5, 2, 9]) := HO2.out.below hB3 (Nat.le_refl _)
  clear hB3 HO12 HO2
  go_wp2_with fail
  refine (putM1_any 1 2 4 7 3 0 0 0 false none 0 0 0 0 none 0 0 w3).mono ?_
  rintro e w4 ⟨v4, rfl, hO4, hB4⟩
  rw [ck3]
  rw [ck3, if_pos rfl, tx3] at hO4
  obtain ⟨a4, c4, rfl, -, -⟩ := hO4.shape
  have hz4 := hB4.size
  have HB4 : Hid (Below w.heap.size w w4) := HB3.out.trans (hB4.mono (by omega))
  have HO14 : Hid (Ow w.heap.size w4 (.slice a1 7 c1) [3, 172, 2, 1, 2, 97, 98]) := HO13.out.below hB4 (Nat.le_refl _)
  have HO24 : Hid (Ow w.heap.size w4 (.slice a2 3 c2) [5, 2, 9]) := HO23.out.below hB4 (Nat.le_refl _)
  have HO4 : Hid (Ow w.heap.size w4 (.slice a4 6 c4) [1, 1, 2, 4, 7, 3]) := hO4.base (by omega)
  clear hB4 hO4 HO13 HO23
  go_wp2_with fail
  have hn5 := sl_new w4 [3, 172, 2, 1, 2, 97, 98] #[.int .u8 3, .int .u8 172, .int .u8 2, .int .u8 1, .int .u8 2, .int .u8 97, .int .u8 98] (by simp) (by simp) (by rfl)
  have ha5 := (HO14.out.alloc (.cells #[.int .u8 3, .int .u8 172, .int .u8 2, .int .u8 1, .int .u8 2, .int .u8 97, .int .u8 98] 5)).sl (M := w4.heap.size + 1) (by simp)
  have HB5 : Hid (Below w.heap.size w (w4.alloc (.cells #[.int .u8 3, .int .u8 172, .int .u8 2, .int .u8 1, .int .u8 2, .int .u8 97, .int .u8 98] 5))) := HB4.out.alloc (by omega) _
  have HO25 : Hid (Ow w.heap.size (w4.alloc (.cells #[.int .u8 3, .int .u8 172, .int .u8 2, .int .u8 1, .int .u8 2, .int .u8 97, .int .u8 98] 5)) (.slice a2 3 c2) [5, 2, 9]) := HO24.out.alloc _
  have HO5 : Hid (Ow w.heap.size (w4.alloc (.cells #[.int .u8 3, .int .u8 172, .int .u8 2, .int .u8 1, .int .u8 2, .int .u8 97, .int .u8 98] 5)) (.slice a4 6 c4) [1, 1, 2, 4, 7, 3]) := HO4.out.alloc _
  refine (same_any _ _ _ _ _ _ ha5 hn5).mono ?_
  rintro e w5 ⟨rfl, n5, hw5⟩
  have hB5 : Below w4.heap.size (w4.alloc (.cells #[.int .u8 3, .int .u8 172, .int .u8 2, .int .u8 1, .int .u8 2, .int .u8 97, .int .u8 98] 5)) w5 := by rw [hw5]; exact below_drewN (Below.refl _ _) n5
  have hz5 : w4.heap.size + 1 = w5.heap.size := by rw [hw5]; simp
  have HB6 : Hid (Below w.heap.size w w5) := HB5.out.trans (hB5.mono (by omega))
  have HO26 : Hid (Ow w.heap.size w5 (.slice a2 3 c2) [5, 2, 9]) := by show Ow _ _ _ _; rw [hw5]; exact HO25.out.below (below_drewN (Below.refl _ _) n5) (Nat.le_refl _)
  have HO6 : Hid (Ow w.heap.size w5 (.slice a4 6 c4) [1, 1, 2, 4, 7, 3]) := by show Ow _ _ _ _; rw [hw5]; exact HO5.out.below (below_drewN (Below.refl _ _) n5) (Nat.le_refl _)
  have hzz5 : w.heap.size ≤ w5.heap.size := by omega
  clear hw5 hB5 hz5 HO25 HO5 hn5 ha5 HB5
  simp only [decide_true]
  go_wp2_with fail
  have hn7 := sl_new w5 [5, 2, 9] #[.int .u8 5, .int .u8 2, .int .u8 9] (by simp) (by simp) (by rfl)
  have ha7 := (HO26.out.alloc (.cells #[.int .u8 5, .int .u8 2, .int .u8 9] 5)).sl (M := w5.heap.size + 1) (by simp)
  have HB7 : Hid (Below w.heap.size w (w5.alloc (.cells #[.int .u8 5, .int .u8 2, .int .u8 9] 5))) := HB6.out.alloc hzz5 _
  have HO7 : Hid (Ow w.heap.size (w5.alloc (.cells #[.int .u8 5, .int .u8 2, .int .u8 9] 5)) (.slice a4 6 c4) [1, 1, 2, 4, 7, 3]) := HO6.out.alloc _
  refine (same_any _ _ _ _ _ _ ha7 hn7).mono ?_
  rintro e w7 ⟨rfl, n7, hw7⟩
  have HB8 : Hid (Below w.heap.size w w7) := by show Below _ _ _; rw [hw7]; exact below_drewN HB7.out n7
  have HO8 : Hid (Ow w.heap.size w7 (.slice a4 6 c4) [1, 1, 2, 4, 7, 3]) := by show Ow _ _ _ _; rw [hw7]; exact HO7.out.below (below_drewN (Below.refl _ _) n7) (Nat.le_refl _)
  have hzz7 : w.heap.size ≤ w7.heap.size := HB8.out.size
  clear hw7 HO7 HB7 hn7 ha7
  simp only [decide_true]
  go_wp2_with fail
  have hn9 := sl_new w7 [1, 1, 2, 4, 7, 3] #[.int .u8 1, .int .u8 1, .int .u8 2, .int .u8 4, .int .u8 7, .int .u8 3] (by simp) (by simp) (by rfl)
  have ha9 := (HO8.out.alloc (.cells #[.int .u8 1, .int .u8 1, .int .u8 2, .int .u8 4, .int .u8 7, .int .u8 3] 5)).sl (M := w7.heap.size + 1) (by simp)
  have HB9 : Hid (Below w.heap.size w (w7.alloc (.cells #[.int .u8 1, .int .u8 1, .int .u8 2, .int .u8 4, .int .u8 7, .int .u8 3] 5))) := HB8.out.alloc hzz7 _
  refine (same_any _ _ _ _ _ _ ha9 hn9).mono ?_
  rintro e w9 ⟨rfl, n9, hw9⟩
  have HB10 : Hid (Below w.heap.size w w9) := by show Below _ _ _; rw [hw9]; exact below_drewN HB9.out n9
  clear hw9 hn9 ha9 HB9
  simp only [decide_true]
  go_wp2_with (go_at_call 13; refine (num_any _ _).mono ?_; rintro e w' ⟨rfl, hw⟩; subst w')
  go_ret
  exact ⟨rfl, HB10.out⟩
end Go.Proofs.Ytfnnbfgfmbiabab
