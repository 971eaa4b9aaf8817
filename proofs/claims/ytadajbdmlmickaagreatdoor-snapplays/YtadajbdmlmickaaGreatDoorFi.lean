/-
  The chapter's example: first is true.
-/
import Derived.Test.YtadajbdmlmickaaGreatDoorLd
import Derived.Test.YtadajbdmlmickaaGreatDoorSw
import Derived.Lib.SlBytesConst
namespace Go.Proofs.YtadajbdmlmickaaGreatDoor
open Go.RowKit
set_option linter.unusedVariables false

def fp1 : PD := (saveP ⟨[], 0, false⟩ 5 2 [97, 98]).2
theorem fp_s1 : (saveP ⟨[], 0, false⟩ 5 2 [97, 98]).1 = 0 := by decide +kernel
theorem fp_l0 : loadS ⟨[], 0, false⟩ = ((0, 0, []), 0, 8) := by decide +kernel
theorem fp_l1 : loadS fp1 = ((5, 2, [97, 98]), 0, 0) := by decide +kernel
theorem fp_s2 : saveP fp1 0 0 [] = (4, fp1) := by unfold saveP; rw [if_pos (by decide +kernel)]; exact congrArg (·, fp1) (by decide +kernel)
theorem fp_ls : (listP fp1).length = 1 := by decide +kernel

set_option maxRecDepth 100000 in
set_option maxHeartbeats 8000000 in
theorem first_s (w : World) (hv : ∀ V, Below w.heap.size w V → Vars V) : Calls Tryz.prog 8 #[] w fun e w' => e = .returned (.bool true) ∧ Below w.heap.size w w' := by
  have HV : Hid (∀ V, Below w.heap.size w V → Vars V) := hv
  have hcv := fun (w : World) (C : Array Value) (n c : Nat) => Lib.run_convert_bytes_const (P := Tryz.prog) w 32 5 C n c Tryz.underlying32 Tryz.underlying5
  clear hv
  go_enter Tryz.func8, Tryz.ntmps8
  go_wp2_with fail
  refine (new_dsk w.heap.size w (Nat.le_refl _)).mono ?_
  rintro r w1 ⟨rfl, hD1, hB1⟩
  obtain ⟨d, hd⟩ : ∃ d, w.heap.size + 1 = d := ⟨_, rfl⟩
  rw [hd] at hD1 ⊢
  obtain ⟨S1, hS1⟩ : ∃ S1 : Nat → Prop, (fun i => w.heap.size ≤ i ∧ i < w.heap.size + 2) = S1 := ⟨_, rfl⟩
  rw [hS1] at hD1
  have HD1 : Hid (Dsk w.heap.size w1 S1 d ⟨[], 0, false⟩) := hD1
  have HB1 : Hid (Below w.heap.size w w1) := hB1
  have HL1 : Hid (Calls _ _ _ _ _) := load_any hD1 (fun V hV => HV.out V (HB1.out.trans (hV.mono HB1.out.size)))
  rw [fp_l0] at HL1
  clear hd hS1 hD1 hB1
  go_wp2_with fail
  refine HL1.out.mono ?_
  rintro r w2 ⟨u2, rfl, hO2, hB2⟩
  obtain ⟨a2, c2, hsh, -, -⟩ := hO2.shape
  subst hsh
  have HB2 : Hid (Below w.heap.size w w2) := HB1.out.trans (hB2.mono HB1.out.size)
  obtain ⟨W3, hW3⟩ : ∃ W3, (w2.alloc (.cells #[.int .i64 0, .int .i64 0, .slice a2 0 c2] 34)).alloc (.cells #[.int .u8 97, .int .u8 98] 5 (2, 3)) = W3 := ⟨_, rfl⟩
  have HW3 : Hid ((w2.alloc (.cells #[.int .i64 0, .int .i64 0, .slice a2 0 c2] 34)).alloc (.cells #[.int .u8 97, .int .u8 98] 5 (2, 3)) = W3) := hW3
  have hB23 : Below w2.heap.size w2 W3 := by rw [← hW3]; exact ((Below.refl _ w2).alloc (Nat.le_refl _) _).alloc (by simp) _
  have HB3 : Hid (Below w.heap.size w W3) := HB2.out.trans (hB23.mono HB2.out.size)
  have hb3 : W3.heap[w2.heap.size + 1]? = some (.cells #[.int .u8 97, .int .u8 98] 5 (2, 3)) := by
    rw [← hW3]; simpa using heap_alloc_new (w2.alloc (.cells #[.int .i64 0, .int .i64 0, .slice a2 0 c2] 34)) (.cells #[.int .u8 97, .int .u8 98] 5 (2, 3))
  have hsl : Sl (w2.heap.size + 2) W3 (.slice (some ⟨w2.heap.size + 1, 0, none⟩) 2 2) [97, 98] := by
    refine ⟨_, _, rfl, by simp, by unfold maxLen; omega, .inr ⟨w2.heap.size + 1, 0, rfl, by omega, fun i hi => ?_⟩⟩
    have hi2 : i = 0 ∨ i = 1 := by simp at hi; omega
    rcases hi2 with rfl | rfl <;> (simp only [World.cell?, hb3]; rfl)
  have hz3 : w2.heap.size + 2 ≤ W3.heap.size := by rw [← hW3]; simp
  have HSV : Hid (Calls _ _ _ _ _) := save_any (HD1.out.below (hB2.trans (hB23.mono hB2.size))) HB3.out.size (fun V hV => HV.out V (HB3.out.trans hV)) 5 2 [97, 98] (some ⟨w2.heap.size + 1, 0, none⟩) 2 (w2.heap.size + 2) hsl hz3
  rw [fp_s1] at HSV
  have hcv3 : (convert 32 32 (.slice (some ⟨w2.heap.size + 1, 0, none⟩) 2 2)).run Tryz.prog ((w2.alloc (.cells #[.int .i64 0, .int .i64 0, .slice a2 0 c2] 34)).alloc (.cells #[.int .u8 97, .int .u8 98] 5)) = .ok (.slice (some ⟨w2.heap.size + 1, 0, none⟩) 2 2) ((w2.alloc (.cells #[.int .i64 0, .int .i64 0, .slice a2 0 c2] 34)).alloc (.cells #[.int .u8 97, .int .u8 98] 5 (2, 3))) := by
    have := hcv (w2.alloc (.cells #[.int .i64 0, .int .i64 0, .slice a2 0 c2] 34)) #[.int .u8 97, .int .u8 98] 2 2
    simpa using this
  clear hO2 hB2 hW3 hB23 hsl HL1 HD1 hcv hb3
  go_wp2_with fail
  rw [HW3.out]
  refine HSV.out.mono ?_
  rintro r w4 ⟨rfl, hT4⟩
  have hT4' : Then w.heap.size S1 W3 w4 d fp1 := hT4
  obtain ⟨S4, hS4⟩ : ∃ S4, grew S1 W3 w4 = S4 := ⟨_, rfl⟩
  have hD4 := hT4'.dsk
  rw [hS4] at hD4
  have HD4 : Hid (Dsk w.heap.size w4 S4 d fp1) := hD4
  have HB4 : Hid (Below w.heap.size w w4) := HB3.out.trans hT4'.bel
  have HL4 : Hid (Calls _ _ _ _ _) := load_any hD4 (fun V hV => HV.out V (HB4.out.trans (hV.mono HB4.out.size)))
  rw [fp_l1] at HL4
  clear hT4 hT4' hS4 hD4 HSV hcv3
  go_wp2_with fail
  refine HL4.out.mono ?_
  rintro r w5 ⟨u5, rfl, hO5, hB5⟩
  obtain ⟨a5, c5, hsh, hcp5, -⟩ := hO5.shape
  subst hsh
  obtain ⟨g5, ha5⟩ : ∃ g, a5 = some ⟨g, 0, none⟩ := by
    rcases hO5.2 with ⟨-, h0⟩ | ⟨g, cap', cur, e, -⟩
    · simp at h0
    · injection e with e1; exact ⟨g, e1⟩
  subst ha5
  have HB5 : Hid (Below w.heap.size w w5) := HB4.out.trans (hB5.mono HB4.out.size)
  obtain ⟨W6, hW6⟩ : ∃ W6, w5.alloc (.cells #[.int .i64 5, .int .i64 2, .slice (some ⟨g5, 0, none⟩) 2 c5] 34) = W6 := ⟨_, rfl⟩
  have HW6 : Hid (w5.alloc (.cells #[.int .i64 5, .int .i64 2, .slice (some ⟨g5, 0, none⟩) 2 c5] 34) = W6) := hW6
  have hB56 : Below w5.heap.size w5 W6 := by rw [← hW6]; exact (Below.refl _ w5).alloc (Nat.le_refl _) _
  have hx6 : W6.heap[w5.heap.size]? = some (.cells #[.int .i64 5, .int .i64 2, .slice (some ⟨g5, 0, none⟩) 2 c5] 34 (0, 0)) := by rw [← hW6]; exact heap_alloc_new w5 _
  have HB6 : Hid (Below w.heap.size w W6) := HB5.out.trans (hB56.mono HB5.out.size)
  have hD6 : Dsk w.heap.size W6 S4 d fp1 := HD4.out.below (hB5.trans (hB56.mono hB5.size))
  have hO6 : Ow w4.heap.size W6 (.slice (some ⟨g5, 0, none⟩) 2 c5) [97, 98] := hO5.below hB56 (Nat.le_refl _)
  have hS4w : ∀ i, S4 i → i < w4.heap.size := HD4.out.inn
  have HS6 : Hid (Calls _ _ _ _ _) := save_any hD6 HB6.out.size (fun V hV => HV.out V (HB6.out.trans hV)) 0 0 [] none 0 0 (Sl.nil _ _) (Nat.zero_le _)
  rw [fp_s2] at HS6
  have HKP : Hid (∀ w7, Then w.heap.size S4 W6 w7 d fp1 → w7.heap[w5.heap.size]? = some (.cells #[.int .i64 5, .int .i64 2, .slice (some ⟨g5, 0, none⟩) 2 c5] 34 (0, 0)) ∧ Ow w4.heap.size w7 (.slice (some ⟨g5, 0, none⟩) 2 c5) [97, 98] ∧ w5.heap.size < w7.heap.size ∧ Below w.heap.size w w7 ∧ Calls Tryz.prog 16 #[.pointer (some ⟨d, 0, none⟩)] w7 fun r w' => ∃ a c, r = .returned (.slice a 1 c) ∧ Below w7.heap.size w7 w') := fun w7 hT => by
    have hl6 := (Array.getElem?_eq_some_iff.1 hx6).1
    have hz5 := hB5.size
    have hb7 : Below w.heap.size w w7 := HB6.out.trans hT.bel
    refine ⟨(hT.out.block _ hl6 (fun hs => by have := hS4w _ hs; omega)).trans hx6, hO6.out hT.out (fun g hg hs => by have := hS4w _ hs; have := (World.ownsRow.lt hO6 g hg).1; omega), by have := hT.out.size; omega, hb7, (list_s hT.dsk (fun V hV => HV.out V (hb7.trans (hV.mono hb7.size)))).mono ?_⟩
    rintro r w' ⟨a, c, rfl, -, hB⟩
    rw [fp_ls]
    exact ⟨a, c, rfl, hB⟩
  clear hO5 hB5 hW6 hB56 hx6 HL4 HD4 hD6 hO6 hS4w
  go_wp2_with fail
  rw [HW6.out]
  go_wp2_with fail
  refine HS6.out.mono ?_
  rintro r w7 ⟨rfl, hT7⟩
  obtain ⟨hx7, hO7, hl7, hB7, hL7⟩ := HKP.out w7 hT7
  have HB7 : Hid (Below w.heap.size w w7) := hB7
  have HX7 : Hid (w7.heap[w5.heap.size]? = some (.cells #[.int .i64 5, .int .i64 2, .slice (some ⟨g5, 0, none⟩) 2 c5] 34 (0, 0))) := hx7
  have HO7 : Hid (Ow w4.heap.size w7 (.slice (some ⟨g5, 0, none⟩) 2 c5) [97, 98]) := hO7
  have HL7 : Hid (Calls _ _ _ _ _) := hL7
  clear hx7 hO7 hB7 hL7 hT7 HKP HS6
  go_wp2_with fail
  refine HL7.out.mono ?_
  rintro r w8 ⟨a8, c8, rfl, hB8⟩
  have hx8 := (hB8.block _ hl7).trans HX7.out
  have hl8 : w5.heap.size < w8.heap.size := Nat.lt_of_lt_of_le hl7 hB8.size
  obtain ⟨⟨x0, x1, x2⟩, -⟩ := Cd.cells3 hx8
  have hO8 := HO7.out.below hB8 (Nat.le_refl _)
  have hcv0 : (convert 32 9 (.slice (some ⟨g5, 0, none⟩) 2 c5)).run Tryz.prog w8 = .ok (.string ⟨#[97, 98]⟩) w8 := by
    have := run_convert_bytes_back (P := Tryz.prog) w8 32 9 5 ⟨g5, 0, none⟩ c5 [97, 98] Tryz.underlying32 Tryz.underlying5 Tryz.underlying9 (fun j hj => by
      rw [Addr.add_lit]
      obtain ⟨a9, c9, e9, -, -, h9⟩ := hO8.sl (Nat.le_refl _)
      cases e9
      obtain ⟨b9, o9, ea9, -, hc9⟩ := h9.resolve_left (by simp)
      cases ea9
      have hj2 : j = 0 ∨ j = 1 := by simp at hj; omega
      rcases hj2 with rfl | rfl
      · exact hc9 0 hj
      · exact hc9 1 hj)
    exact this
  have HB8 : Hid (Below w.heap.size w w8) := HB7.out.trans (hB8.mono HB7.out.size)
  clear hx8 hO8 hB8 HL7 HX7 HO7
  go_wp2_with (first | (go_at_call 18; refine (num_any _ _).mono ?_; rintro e w9 ⟨rfl, rfl⟩) | fail)
  go_ret
  exact ⟨by simp, HB8.out⟩
end Go.Proofs.YtadajbdmlmickaaGreatDoor
