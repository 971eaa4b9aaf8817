/-
  The chapter's example: 'first' is true.
-/
import Derived.Test.YtbjnhohfdpdcnaaC9
namespace Go.Proofs.Ytbjnhohfdpdcnaa
open Go.RowKit
set_option linter.unusedVariables false

theorem create_dsk {N : Nat} {S : Nat → Prop} {w : World} {d : Nat} {p : PD} (h : Dsk N w S d p) (hN : N ≤ w.heap.size) (nm : List UInt8) (hn : nm.length ≤ maxLen) (x : Nat × PD) (hx : doCreate p nm = x) :
    Calls Try.prog 19 #[.pointer (some ⟨d, 0, none⟩), .string ⟨nm.toArray⟩] w fun r w' => r = .returned (.int .i64 (x.1 : Int)) ∧ Then N S w w' d x.2 := by
  obtain ⟨k, hk, rfl, hS⟩ := h
  subst hx
  refine (create_any hk nm hn).mono ?_
  rintro r w' ⟨k', rfl, hA, hp⟩
  exact ⟨rfl, Then.of hA hp hS hN⟩
theorem sync_dsk {N : Nat} {S : Nat → Prop} {w : World} {d : Nat} {p : PD} (h : Dsk N w S d p) (hN : N ≤ w.heap.size) (nm : List UInt8) (hn : nm.length ≤ maxLen) (x : Nat × PD) (hx : doSync p nm = x) :
    Calls Try.prog 32 #[.pointer (some ⟨d, 0, none⟩), .string ⟨nm.toArray⟩] w fun r w' => r = .returned (.int .i64 (x.1 : Int)) ∧ Then N S w w' d x.2 := by
  obtain ⟨k, hk, rfl, hS⟩ := h
  subst hx
  refine (sync_any hk nm hn).mono ?_
  rintro r w' ⟨k', rfl, hA, hp⟩
  exact ⟨rfl, Then.of hA hp hS hN⟩
/-- Bytes that are written out are appended. -/
theorem append_dsk {N : Nat} {S : Nat → Prop} {w : World} {d : Nat} {p : PD} (h : Dsk N w S d p) (hN : N ≤ w.heap.size) (nm : List UInt8) (hn : nm.length ≤ maxLen) (l : List UInt8) (c : Array Value) (hl : 0 < l.length) (hm : l.length ≤ 1000) (hc : c.toList = l.map encB) (x : Nat × PD) (hx : doAppend p nm l = x) :
    Calls Try.prog 21 #[.pointer (some ⟨d, 0, none⟩), .string ⟨nm.toArray⟩, .slice (some ⟨w.heap.size, 0, none⟩) l.length l.length] (w.alloc (.cells c 5)) fun r w' => r = .returned (.int .i64 (x.1 : Int)) ∧ Then N S (w.alloc (.cells c 5)) w' d x.2 := by
  have hB : Below w.heap.size w (w.alloc (.cells c 5)) := (Below.refl _ w).alloc (Nat.le_refl _) _
  have hi := h.inn
  obtain ⟨k, hk, rfl, hS⟩ := h.below hB
  subst hx
  have hsl := sl_new w l c hl hm hc
  have hsx : SlX S (w.alloc (.cells c 5)) (.slice (some ⟨w.heap.size, 0, none⟩) l.length l.length) l := by
    obtain ⟨a, cap, e, h1, h2, h3⟩ := hsl
    cases e
    refine ⟨_, _, rfl, h1, h2, h3.imp id ?_⟩
    rintro ⟨b, off, ha, hb, hcc⟩
    cases ha
    exact ⟨_, _, rfl, fun hs => by have := hi _ hs; omega, by simp, hcc⟩
  refine (append_any hk nm hn _ _ l hsx).mono ?_
  rintro r w' ⟨k', rfl, hA, hp⟩
  exact ⟨rfl, Then.of hA hp hS (by simp; omega)⟩

def pA : PD := ⟨[⟨[97], [], 0, false⟩], 0, false⟩
def pB : PD := ⟨[⟨[97], [1, 2, 3], 0, true⟩], 0, false⟩
def pC : PD := ⟨[⟨[97], [1, 2, 3], 3, true⟩], 0, false⟩
def pD : PD := ⟨[⟨[97], [1, 2, 3, 4, 5], 3, true⟩], 0, false⟩
theorem xa : doCreate ⟨[], 0, false⟩ [97] = (0, pA) := rfl
theorem xb : doCreate pA [97] = (9, pA) := rfl
theorem xc : doCreate pA [65] = (7, pA) := rfl
theorem xd : doAppend pA [97] [1, 2, 3] = (0, pB) := rfl
theorem xe : doSync pB [97] = (0, pC) := rfl
theorem xf : doAppend pC [97] [4, 5] = (0, pD) := rfl
theorem xg : doCrash pD 1 = ⟨[⟨[97], [1, 2, 3, 4], 4, false⟩], 0, false⟩ := rfl

set_option maxRecDepth 100000 in
set_option maxHeartbeats 8000000 in
theorem first_any (w : World) : Calls Try.prog 9 #[] w fun e w' => e = .returned (.bool true) ∧ Below w.heap.size w w' := by
  go_enter Try.func9, Try.ntmps9
  go_wp2_with fail
  refine (new_dsk w.heap.size w (Nat.le_refl _)).mono ?_
  rintro e w1 ⟨rfl, hd1, hB1⟩
  go_wp2_with fail
  refine (create_dsk hd1 hB1.size [97] (by decide) _ xa).mono ?_
  rintro e w2 ⟨rfl, hT2⟩
  have hB2 := hB1.trans hT2.bel
  go_wp2_with fail
  refine (create_dsk hT2.dsk hB2.size [97] (by decide) _ xb).mono ?_
  rintro e w3 ⟨rfl, hT3⟩
  have hB3 := hB2.trans hT3.bel
  go_wp2_with fail
  refine (create_dsk hT3.dsk hB3.size [65] (by decide) _ xc).mono ?_
  rintro e w4 ⟨rfl, hT4⟩
  have hB4 := hB3.trans hT4.bel
  go_wp2_with fail
  refine (append_dsk hT4.dsk hB4.size [97] (by decide) [1, 2, 3] #[.int .u8 1, .int .u8 2, .int .u8 3] (by simp) (by simp) (by rfl) _ xd).mono ?_
  rintro e w5 ⟨rfl, hT5⟩
  have hB5 := (hB4.alloc hB4.size (.cells #[.int .u8 1, .int .u8 2, .int .u8 3] 5)).trans hT5.bel
  go_wp2_with fail
  refine (sync_dsk hT5.dsk hB5.size [97] (by decide) _ xe).mono ?_
  rintro e w6 ⟨rfl, hT6⟩
  have hB6 := hB5.trans hT6.bel
  go_wp2_with fail
  refine (append_dsk hT6.dsk hB6.size [97] (by decide) [4, 5] #[.int .u8 4, .int .u8 5] (by simp) (by simp) (by rfl) _ xf).mono ?_
  rintro e w7 ⟨rfl, hT7⟩
  have hB7 := (hB6.alloc hB6.size (.cells #[.int .u8 4, .int .u8 5] 5)).trans hT7.bel
  go_wp2_with fail
  refine (crash_dsk hT7.dsk hB7.size 1).mono ?_
  rintro e w8 ⟨rfl, hT8⟩
  have hB8 := hB7.trans hT8.bel
  go_wp2_with fail
  refine (files_dsk hT8.dsk).mono ?_
  rintro e w9 ⟨a, c, fs, rfl, hF, hs, -, hB9⟩
  rw [xg] at hs
  have HB9 : Hid (Below w.heap.size w w9) := hB8.trans (hB9.mono hB8.size)
  obtain ⟨f, rfl⟩ : ∃ f, fs = [f] := by
    have := congrArg List.length hs
    simp [saysF] at this
    match fs, this with
    | [f], _ => exact ⟨f, rfl⟩
  have hsay : f.says = ([97], [1, 2, 3, 4], 4) := by simpa [saysF, PF.says] using hs
  obtain ⟨b, off, rfl, hb, h0, h1, h2, h3⟩ := hF.at (i := 0) (by simp)
  obtain ⟨n, fa, fc, dd, ss⟩ := f
  simp [Fl.says] at hsay
  obtain ⟨rfl, rfl, rfl⟩ := hsay
  unfold Fl.x at h1 h3
  simp at h0 h1 h2 h3
  have hnum : ∀ n w, Calls Try.prog 18 #[.int .i64 n] w fun e w' => e = .returned (.int .i64 n) ∧ w' = w := num_any
  have hsm : Calls Try.prog 30 #[.slice fa 4 fc, .slice (some ⟨w9.heap.size, 0, none⟩) 4 4] (w9.alloc (.cells #[.int .u8 1, .int .u8 2, .int .u8 3, .int .u8 4] 5)) fun e w' => e = .returned (.bool true) ∧ ∃ n, w' = (w9.alloc (.cells #[.int .u8 1, .int .u8 2, .int .u8 3, .int .u8 4] 5)).drewN n := by
    have hBx : Below w9.heap.size w9 (w9.alloc (.cells #[.int .u8 1, .int .u8 2, .int .u8 3, .int .u8 4] 5)) := (Below.refl _ w9).alloc (Nat.le_refl _) _
    have := same_any (w9.heap.size + 1) (.slice fa 4 fc) (.slice (some ⟨w9.heap.size, 0, none⟩) 4 4) [1, 2, 3, 4] [1, 2, 3, 4] (w9.alloc (.cells #[.int .u8 1, .int .u8 2, .int .u8 3, .int .u8 4] 5)) ((h3.below hBx).mono (by omega)) (sl_new w9 [1, 2, 3, 4] #[.int .u8 1, .int .u8 2, .int .u8 3, .int .u8 4] (by simp) (by simp) (by rfl))
    simpa using this
  clear hT2 hT3 hT4 hT5 hT6 hT7 hT8 hB1 hB2 hB3 hB4 hB5 hB6 hB7 hB8 hB9 hd1 hs hF h3
  go_wp2_with (first | (go_at_call 18; refine (hnum _ _).mono ?_; rintro e wx ⟨rfl, rfl⟩) | (go_at_call 30; refine hsm.mono ?_; rintro e wx ⟨rfl, nn, rfl⟩))
  go_ret
  exact ⟨rfl, (HB9.out.alloc HB9.out.size _).trans ⟨rfl, rfl, rfl, Nat.le_refl _, fun _ _ => rfl⟩⟩

end Go.Proofs.Ytbjnhohfdpdcnaa
