/-
  The law's first look: frames of which the document fixes all.
-/
import Derived.Test.YthhnjiodfbckcaaAll
import Derived.Lib.SlBytesConst
namespace Go.Proofs.Ythhnjiodfbckcaa
open Go.RowKit Go.Shelf

theorem sl_marked (w : World) (l : List UInt8) (c : Array Value) (z : Nat × Nat) (hm : l.length ≤ 1000) (hc : c.toList = l.map encB) : Sl (w.heap.size + 1) (w.alloc (.cells c 5 z)) (.slice (some ⟨w.heap.size, 0, none⟩) l.length l.length) l := by
  refine ⟨_, _, rfl, Nat.le_refl _, by unfold maxLen; omega, .inr ⟨_, _, rfl, by omega, fun i hi => ?_⟩⟩
  have h : (w.alloc (.cells c 5 z)).heap[w.heap.size]? = some (.cells c 5 z) := World.alloc_heap_new w _
  simp only [World.cell?, h, Nat.zero_add]
  have : c.toList[i]? = (l.map encB)[i]? := by rw [hc]
  rw [List.getElem?_map, List.getElem?_eq_getElem hi] at this
  simpa [hi] using this

theorem putB_nil : putB [] = [0, 0, 0, 0, 199, 75, 103, 72] := by decide +kernel
theorem putE_nil : putE [] = 0 := by decide +kernel
theorem one_123 : oneOf [1, 2, 3] = ([], 2) := by decide +kernel
theorem frames_zero : framesOf [0, 0, 0, 0, 199, 75, 103, 72] = [(0, [])] := by decide +kernel
theorem end_zero : endOf [0, 0, 0, 0, 199, 75, 103, 72] = 8 := by decide +kernel
theorem allE_zero : allE [0, 0, 0, 0, 199, 75, 103, 72] = 0 := by decide +kernel

set_option maxRecDepth 100000 in
set_option maxHeartbeats 2000000 in
theorem first_any (w : World) : Calls Try.prog 9 #[] w fun e w' => e = .returned (.bool true) ∧ Below w.heap.size w w' := by
  go_enter Try.func9, Try.ntmps9
  have hcv := fun (w : World) (C : Array Value) (n c : Nat) => Lib.run_convert_bytes_const (P := Try.prog) w 22 5 C n c Try.underlying22 Try.underlying5
  go_wp2_with fail
  clear hcv
  have hs1 := sl_marked w [49, 50, 51, 52, 53, 54, 55, 56, 57] #[.int .u8 49, .int .u8 50, .int .u8 51, .int .u8 52, .int .u8 53, .int .u8 54, .int .u8 55, .int .u8 56, .int .u8 57] (9, 10) (by simp) (by rfl)
  refine (sum_any _ _ [49, 50, 51, 52, 53, 54, 55, 56, 57] _ hs1 (by simp)).mono ?_
  rintro e w1 ⟨rfl, hB1⟩
  rw [crc_nine]
  have hz1 := hB1.size
  simp only [World.size_alloc] at hz1
  have HB1 : Hid (Below w.heap.size w w1) := ((Below.refl _ w).alloc (Nat.le_refl _) _).trans (hB1.mono (by simp))
  clear hB1 hs1
  go_wp2_with fail
  refine (put_any 0 _ [] w1 (Sl.nil _ _) (Nat.zero_le _)).mono ?_
  rintro e w2 ⟨v2, rfl, hO2, hB2⟩
  rw [putB_nil] at hO2
  rw [putE_nil]
  obtain ⟨a2, c2, rfl, -⟩ := hO2.shape
  have hz2 := hB2.size
  have HB2 : Hid (Below w.heap.size w w2) := HB1.out.trans (hB2.mono (by omega))
  clear hB2
  go_wp2_with fail
  have hs3 := sl_new w2 [1, 2, 3] #[.int .u8 1, .int .u8 2, .int .u8 3] (by simp) (by simp) (by rfl)
  refine (one_any _ _ [1, 2, 3] _ hs3 (by simp) (by simp)).mono ?_
  rintro e w3 ⟨v3, rfl, -, hB3⟩
  rw [one_123]
  have hz3 := hB3.size
  simp only [World.size_alloc] at hz3
  have HB3 : Hid (Below w.heap.size w w3) := (HB2.out.alloc (by omega) _).trans (hB3.mono (by simp; omega))
  have hO3 := (hO2.alloc (.cells #[.int .u8 1, .int .u8 2, .int .u8 3] 5)).below hB3 (by simp)
  clear hB3 hs3 hO2
  go_wp2_with fail
  refine (all_any _ [0, 0, 0, 0, 199, 75, 103, 72] w3 (hO3.sl (Nat.le_refl _)) (by simp)).mono ?_
  rintro e w4 ⟨xs, vl, rfl, hk, hrow, -, -, hB4⟩
  rw [end_zero, allE_zero]
  rw [frames_zero] at hk
  have hxl : xs.length = 1 := by have := congrArg List.length hk; simpa using this
  rw [hxl] at hrow
  obtain ⟨gl, cl, rfl⟩ := ownsRow_succ hrow
  have hz4 := hB4.size
  have HB4 : Hid (Below w.heap.size w w4) := HB3.out.trans (hB4.mono (by omega))
  have hO4 := hO3.below hB4 (Nat.le_refl _)
  clear hB4 hO3 hrow hk hxl
  have hs5 := sl_new w4 [0, 0, 0, 0, 199, 75, 103, 72] #[.int .u8 0, .int .u8 0, .int .u8 0, .int .u8 0, .int .u8 199, .int .u8 75, .int .u8 103, .int .u8 72] (by simp) (by simp) (by rfl)
  have hs6 := (hO4.alloc (.cells #[.int .u8 0, .int .u8 0, .int .u8 0, .int .u8 0, .int .u8 199, .int .u8 75, .int .u8 103, .int .u8 72] 5)).sl (M := w4.heap.size + 1) (by simp)
  have CS : Hid (Calls Try.prog 14 #[.slice a2 8 c2, .slice (some ⟨w4.heap.size, 0, none⟩) 8 8] (w4.alloc (.cells #[.int .u8 0, .int .u8 0, .int .u8 0, .int .u8 0, .int .u8 199, .int .u8 75, .int .u8 103, .int .u8 72] 5)) fun e w' => e = .returned (.bool true) ∧ Below w.heap.size w w') := by
    refine Calls.mono (same_any _ _ _ _ _ _ hs6 hs5) ?_
    rintro e w' ⟨rfl, n, rfl⟩
    exact ⟨by simp, (HB4.out.alloc (by omega) _).trans ⟨rfl, rfl, rfl, Nat.le_refl _, fun _ _ => rfl⟩⟩
  clear hs5 hs6 hO4
  go_wp2_with (first
    | (go_at_call 17; refine (num_any _ _).mono ?_; rintro e w' ⟨rfl, hw⟩; subst w')
    | (go_at_call 14; refine CS.out.mono ?_; rintro e w5 ⟨rfl, hB5⟩))
  go_ret
  exact ⟨rfl, hB5⟩
end Go.Proofs.Ythhnjiodfbckcaa
