/-
  Save.
-/
import Derived.Test.YtadajbdmlmickaaGreatDoorSv
namespace Go.Proofs.YtadajbdmlmickaaGreatDoor
open Go.RowKit
set_option linter.unusedVariables false

def st1 (p : PD) : Nat × PD := if (lookP tmpL p.fs).isSome then doRemove p tmpL else (0, p)
def st2 (p : PD) : Nat × PD := thenP (st1 p) (fun q => doCreate q tmpL)
def st3 (p : PD) (b : List UInt8) : Nat × PD := thenP (st2 p) (fun q => doAppend q tmpL b)
def st4 (p : PD) (b : List UInt8) : Nat × PD := thenP (st3 p b) (fun q => doSync q tmpL)
/-- Behind k of Save's steps. -/
def stK (p : PD) (b : List UInt8) (i : Nat) : Nat → Nat × PD
  | 0 => (0, p)
  | 1 => st1 p
  | 2 => st2 p
  | 3 => st3 p b
  | 4 => st4 p b
  | _ => thenP (st4 p b) (fun q => doRename q tmpL (nmL i))
theorem stK_5 (p : PD) (b : List UInt8) (i : Nat) : stK p b i 5 = saveS p b i := rfl
theorem thenP_ok {x : Nat × PD} {f : PD → Nat × PD} (h : x.1 = 0) : thenP x f = f x.2 := by unfold thenP; rw [if_pos h]
theorem thenP_no {x : Nat × PD} {f : PD → Nat × PD} (h : x.1 ≠ 0) : thenP x f = x := by unfold thenP; rw [if_neg h]
/-- What fails at a step is what Save answers. -/
theorem stK_end (p : PD) (b : List UInt8) (i : Nat) {k : Nat} (hk : k ≤ 5) (h : (stK p b i k).1 ≠ 0) : saveS p b i = stK p b i k := by
  rw [← stK_5]
  have h4 : (stK p b i 4).1 ≠ 0 → stK p b i 5 = stK p b i 4 := fun h => by show thenP (st4 p b) (fun q => doRename q tmpL (nmL i)) = st4 p b; exact thenP_no h
  have h3 : (stK p b i 3).1 ≠ 0 → stK p b i 4 = stK p b i 3 := fun h => by show thenP (st3 p b) (fun q => doSync q tmpL) = st3 p b; exact thenP_no h
  have h2 : (stK p b i 2).1 ≠ 0 → stK p b i 3 = stK p b i 2 := fun h => by show thenP (st2 p) (fun q => doAppend q tmpL b) = st2 p; exact thenP_no h
  have h1 : (stK p b i 1).1 ≠ 0 → stK p b i 2 = stK p b i 1 := fun h => by show thenP (st1 p) (fun q => doCreate q tmpL) = st1 p; exact thenP_no h
  have hc : k = 0 ∨ k = 1 ∨ k = 2 ∨ k = 3 ∨ k = 4 ∨ k = 5 := by omega
  rcases hc with rfl | rfl | rfl | rfl | rfl | rfl
  · exact absurd rfl h
  · have e2 := h1 h
    have e3 := h2 (by rw [e2]; exact h)
    have e4 := h3 (by rw [e3, e2]; exact h)
    rw [h4 (by rw [e4, e3, e2]; exact h), e4, e3, e2]
  · have e3 := h2 h
    have e4 := h3 (by rw [e3]; exact h)
    rw [h4 (by rw [e4, e3]; exact h), e4, e3]
  · have e4 := h3 h
    rw [h4 (by rw [e4]; exact h), e4]
  · exact h4 h
  · rfl

set_option maxRecDepth 100000 in
set_option maxHeartbeats 8000000 in
theorem save_any {N : Nat} {S : Nat → Prop} {w : World} {d : Nat} {p : PD} (h : Dsk N w S d p) (hN : N ≤ w.heap.size) (hv : ∀ V, Below N w V → Vars V) (i t : Int) (m : List UInt8) (a : Option Addr) (cap : Nat) (M : Nat) (hx : Sl M w (.slice a m.length cap) m) (hM : M ≤ w.heap.size) :
    Calls Tryz.prog 24 #[.pointer (some ⟨d, 0, none⟩), .agg #[.int .i64 i, .int .i64 t, .slice a m.length cap]] w fun r w' => r = .returned (.int .i64 ((saveP p i t m).1 : Int)) ∧ Then N S w w' d (saveP p i t m).2 := by
  have hS : ∀ j, S j → j < w.heap.size ∧ N ≤ j := fun j hj => ⟨h.inn j hj, h.from j hj⟩
  obtain ⟨W0, hW0⟩ : ∃ W0, (w.alloc (.cells #[.pointer (some ⟨d, 0, none⟩)] 25)).alloc (.cells #[.int .i64 i, .int .i64 t, .slice a m.length cap] 34) = W0 := ⟨_, rfl⟩
  have HW0 : Hid ((w.alloc (.cells #[.pointer (some ⟨d, 0, none⟩)] 25)).alloc (.cells #[.int .i64 i, .int .i64 t, .slice a m.length cap] 34) = W0) := hW0
  have hB0 : Below w.heap.size w W0 := by rw [← hW0]; exact ((Below.refl _ w).alloc (Nat.le_refl _) _).alloc (by simp) _
  have hz0 : W0.heap.size = w.heap.size + 2 := by rw [← hW0]; simp
  have hx0 : W0.heap[w.heap.size]? = some (.cells #[.pointer (some ⟨d, 0, none⟩)] 25 (0, 0)) := by
    rw [← hW0, ((Below.refl (w.heap.size + 1) _).alloc (by simp) _).block _ (by omega)]; exact heap_alloc_new w _
  have hx1 : W0.heap[w.heap.size + 1]? = some (.cells #[.int .i64 i, .int .i64 t, .slice a m.length cap] 34 (0, 0)) := by
    rw [← hW0]; simpa using heap_alloc_new (w.alloc (.cells #[.pointer (some ⟨d, 0, none⟩)] 25)) _
  have HFR : Hid (Calls _ _ _ _ _) := framed_any i t m a cap W0 M (hx.below (hB0.mono hM)) (by omega)
  obtain ⟨⟨c0, c1, c2⟩, -⟩ := Cd.cells3 hx1
  have c9 : W0.cell? ⟨w.heap.size, 0, none⟩ = some (.pointer (some ⟨d, 0, none⟩)) := by simp [World.cell?, hx0]
  by_cases hE : frmE i t m.length = 0
  · obtain ⟨-, hi1, hi2, hi3, -, -⟩ := snapD_fr hE
    have hsv : saveP p i t m = saveS p (frL i t m) i.toNat := by unfold saveP; rw [if_neg (by simpa using hE)]
    rw [hsv]
    rw [hE, if_pos rfl] at HFR
    obtain ⟨b, hb⟩ : ∃ b, frL i t m = b := ⟨_, rfl⟩
    rw [hb] at HFR ⊢
    obtain ⟨n, hn⟩ : ∃ n, i.toNat = n := ⟨_, rfl⟩
    rw [hn] at hi1 hi2 hi3 ⊢
    subst hi3
    have HX0 : Hid (W0.heap[w.heap.size]? = some (.cells #[.pointer (some ⟨d, 0, none⟩)] 25 (0, 0))) := hx0
    have HX1 : Hid (W0.heap[w.heap.size + 1]? = some (.cells #[.int .i64 (n : Int), .int .i64 t, .slice a m.length cap] 34 (0, 0))) := hx1
    have HB0 : Hid (Below w.heap.size w W0) := hB0
    have HD : Hid (Dsk N w S d p) := h
    have HV : Hid (∀ V, Below N w V → Vars V) := hv
    have HS : Hid (∀ j, S j → j < w.heap.size ∧ N ≤ j) := hS
    have hN2 : N ≤ w.heap.size := hN
    clear hx0 hx1 hB0 h hv hS hx hM hE hsv hb hn hW0
    go_enter Tryz.func24, Tryz.ntmps24
    go_wp2_with fail
    rw [HW0.out]
    go_wp2_with fail
    refine HFR.out.mono ?_
    rintro r w1 ⟨u, rfl, hO1, hB1⟩
    obtain ⟨ua, uc, hsh, hcp, hcm⟩ := hO1.shape
    subst hsh
    obtain ⟨W2, hW2⟩ : ∃ W2, w1.alloc (.cells #[.slice ua b.length uc] 32) = W2 := ⟨_, rfl⟩
    have HW2 : Hid (w1.alloc (.cells #[.slice ua b.length uc] 32) = W2) := hW2
    have hB12 : Below w1.heap.size w1 W2 := by rw [← hW2]; exact (Below.refl _ w1).alloc (Nat.le_refl _) _
    have hz1 := hB1.size
    have hz2 : W2.heap.size ≤ w1.heap.size + 1 ∧ w1.heap.size + 1 ≤ W2.heap.size := by rw [← hW2]; simp
    have hB2 : Below W0.heap.size W0 W2 := hB1.trans (hB12.mono hz1)
    have HBW : Hid (Below w.heap.size w W2) := HB0.out.trans (hB2.mono (by omega))
    have HX2 : Hid (W2.heap[w1.heap.size]? = some (.cells #[.slice ua b.length uc] 32 (0, 0))) := by show _ = _; rw [← hW2]; exact heap_alloc_new w1 _
    have HY0 : Hid (W2.heap[w.heap.size]? = some (.cells #[.pointer (some ⟨d, 0, none⟩)] 25 (0, 0))) := (hB2.block _ (by omega)).trans HX0.out
    have HY1 : Hid (W2.heap[w.heap.size + 1]? = some (.cells #[.int .i64 (n : Int), .int .i64 t, .slice a m.length cap] 34 (0, 0))) := (hB2.block _ (by omega)).trans HX1.out
    have HO2 : Hid (Ow W0.heap.size W2 (.slice ua b.length uc) b) := hO1.below hB12 (Nat.le_refl _)
    have e9 : w1.cell? ⟨w.heap.size, 0, none⟩ = some (.pointer (some ⟨d, 0, none⟩)) := (hB1.cell (p := ⟨w.heap.size, 0, none⟩) (by show w.heap.size < _; omega)).trans c9
    have d9 : W2.cell? ⟨w.heap.size, 0, none⟩ = some (.pointer (some ⟨d, 0, none⟩)) := by have := HY0.out; simp [World.cell?, this]
    have hlw1 : w.heap.size < w1.heap.size := by omega
    have HHAS : Hid (Calls _ _ _ _ _) := has_x (HD.out.below HBW.out) tmpL tmp_len
    obtain ⟨hs, hhs⟩ : ∃ hs, (lookP tmpL p.fs).isSome = hs := ⟨_, rfl⟩
    have HHS : Hid ((lookP tmpL p.fs).isSome = hs) := hhs
    rw [hhs] at HHAS
    clear hO1 hB1 hB12 hB2 hW2 hhs HFR c0 c1 c2 c9 HX0 HX1 HW0
    go_wp2_with fail
    rw [HW2.out]
    refine HHAS.out.mono ?_
    rintro r w3 ⟨rfl, hw3⟩
    subst w3
    go_wp2_with fail
    obtain ⟨V0, hV0⟩ : ∃ V0, W2.alloc (.cells #[.bool hs, .func (.func 58) #[] #[.pointer (some ⟨w.heap.size, 0, none⟩)], .bool true, .func (.func 60) #[] #[.pointer (some ⟨w.heap.size, 0, none⟩)], .bool true, .func (.func 61) #[] #[.pointer (some ⟨w.heap.size, 0, none⟩), .pointer (some ⟨w1.heap.size, 0, none⟩)], .bool true, .func (.func 62) #[] #[.pointer (some ⟨w.heap.size, 0, none⟩)], .bool true, .func (.func 63) #[] #[.pointer (some ⟨w.heap.size, 0, none⟩), .pointer (some ⟨w.heap.size + 1, 0, none⟩)]] 108) = V0 := ⟨_, rfl⟩
    have hB3 : Below W2.heap.size W2 V0 := by rw [← hV0]; exact (Below.refl _ W2).alloc (Nat.le_refl _) _
    have hz3 : V0.heap.size ≤ W2.heap.size + 1 ∧ W2.heap.size + 1 ≤ V0.heap.size := by rw [← hV0]; simp
    have HZ3 : Hid (V0.heap[W2.heap.size]? = some (.cells #[.bool hs, .func (.func 58) #[] #[.pointer (some ⟨w.heap.size, 0, none⟩)], .bool true, .func (.func 60) #[] #[.pointer (some ⟨w.heap.size, 0, none⟩)], .bool true, .func (.func 61) #[] #[.pointer (some ⟨w.heap.size, 0, none⟩), .pointer (some ⟨w1.heap.size, 0, none⟩)], .bool true, .func (.func 62) #[] #[.pointer (some ⟨w.heap.size, 0, none⟩)], .bool true, .func (.func 63) #[] #[.pointer (some ⟨w.heap.size, 0, none⟩), .pointer (some ⟨w.heap.size + 1, 0, none⟩)]] 108 (0, 0))) := by show _ = _; rw [← hV0]; exact heap_alloc_new W2 _
    have HZ0 : Hid (V0.heap[w.heap.size]? = some (.cells #[.pointer (some ⟨d, 0, none⟩)] 25 (0, 0))) := (hB3.block _ (by omega)).trans HY0.out
    have HZ1 : Hid (V0.heap[w.heap.size + 1]? = some (.cells #[.int .i64 (n : Int), .int .i64 t, .slice a m.length cap] 34 (0, 0))) := (hB3.block _ (by omega)).trans HY1.out
    have HZ2 : Hid (V0.heap[w1.heap.size]? = some (.cells #[.slice ua b.length uc] 32 (0, 0))) := (hB3.block _ (by omega)).trans HX2.out
    have HUA : Hid (∀ g, (Value.slice ua b.length uc).ownBlock = some g → g < V0.heap.size) := fun g hg => by have := (World.ownsRow.lt HO2.out g hg).2; omega
    have HOV : Hid (∀ V : World, (∀ i, w.heap.size ≤ i → i < V0.heap.size → V.heap[i]? = V0.heap[i]?) → Ow w.heap.size V (.slice ua b.length uc) b) := fun V hk => by
      rcases (HO2.out.below hB3 (Nat.le_refl _)) with ⟨q1, q2 | ⟨g, cap', cur, q2, q3, q4, q5⟩⟩
      · exact ⟨q1, .inl q2⟩
      · have hgl := (Array.getElem?_eq_some_iff.1 q4).1
        exact ⟨q1, .inr ⟨g, cap', cur, q2, by omega, (hk g (by omega) hgl).trans q4, q5⟩⟩
    have HBX0 : Hid (Bx N S w V0 V0 d p) := Bx.start HD.out (HBW.out.trans (hB3.mono (by omega)))
    rw [hV0]
    clear hV0 hB3 HY0 HY1 HX2 HO2 HHAS e9 d9 HBW HW2 HD
    go_loopw [34] (fun kv wr => ∃ k : Nat, kv = .int .i64 (k : Int) ∧ k ≤ 5 ∧ (stK p b n k).1 = 0 ∧ Bx N S w V0 wr d (stK p b n k).2) (fun kv _ => 5 - (intOf kv).toNat)
    case atStart => exact ⟨0, rfl, by omega, rfl, HBX0.out⟩
    case round =>
      obtain ⟨k, rfl, hk, hst, hBx⟩ := hrel
      have k3 := hBx.cell (by omega) (by omega) HZ3.out
      have l0 : wr.cell? ⟨W2.heap.size, 0, none⟩ = some (.bool hs) := by simp [World.cell?, k3]
      have l1 : wr.cell? ⟨W2.heap.size, 1, none⟩ = some (.func (.func 58) #[] #[.pointer (some ⟨w.heap.size, 0, none⟩)]) := by simp [World.cell?, k3]
      have l3 : wr.cell? ⟨W2.heap.size, 3, none⟩ = some (.func (.func 60) #[] #[.pointer (some ⟨w.heap.size, 0, none⟩)]) := by simp [World.cell?, k3]
      have l5 : wr.cell? ⟨W2.heap.size, 5, none⟩ = some (.func (.func 61) #[] #[.pointer (some ⟨w.heap.size, 0, none⟩), .pointer (some ⟨w1.heap.size, 0, none⟩)]) := by simp [World.cell?, k3]
      have l7 : wr.cell? ⟨W2.heap.size, 7, none⟩ = some (.func (.func 62) #[] #[.pointer (some ⟨w.heap.size, 0, none⟩)]) := by simp [World.cell?, k3]
      have l9 : wr.cell? ⟨W2.heap.size, 9, none⟩ = some (.func (.func 63) #[] #[.pointer (some ⟨w.heap.size, 0, none⟩), .pointer (some ⟨w.heap.size + 1, 0, none⟩)]) := by simp [World.cell?, k3]
      have l2 : wr.cell? ⟨W2.heap.size, 2, none⟩ = some (.bool true) := by simp [World.cell?, k3]
      have l4 : wr.cell? ⟨W2.heap.size, 4, none⟩ = some (.bool true) := by simp [World.cell?, k3]
      have l6 : wr.cell? ⟨W2.heap.size, 6, none⟩ = some (.bool true) := by simp [World.cell?, k3]
      have l8 : wr.cell? ⟨W2.heap.size, 8, none⟩ = some (.bool true) := by simp [World.cell?, k3]
      have hlX : W2.heap.size < wr.heap.size := by have := hBx.ks; omega
      clear k3 HBX0
      have hc : k = 0 ∨ k = 1 ∨ k = 2 ∨ k = 3 ∨ k = 4 ∨ k = 5 := by omega
      rcases hc with rfl | rfl | rfl | rfl | rfl | rfl
      · have HBX : Hid (Bx N S w V0 (wr.alloc (.cells #[.bool true, .func (.func 58) #[] #[.pointer (some ⟨w.heap.size, 0, none⟩)]] 108)) d (stK p b n 0).2) := hBx.below (by omega) ((Below.refl _ wr).alloc (Nat.le_refl _) _)
        have hlV : W2.heap.size < wr.heap.size := by have := hBx.ks; omega
        have heq : hs = true → stK p b n 1 = doRemove p tmpL := fun e => by show st1 p = _; unfold st1; rw [HHS.out, e]; rfl
        have heq2 : hs = false → stK p b n 1 = (0, p) := fun e => by show st1 p = _; unfold st1; rw [HHS.out, e]; rfl
        have k0 := HBX.out.cell (Nat.le_refl _) (by omega) HZ0.out
        have k1 := HBX.out.cell (by omega) (by omega) HZ1.out
        have k2 := HBX.out.cell (by omega) (by omega) HZ2.out
        cases hs with
        | true =>
          have HCL : Hid (Calls Tryz.prog 58 #[.pointer (some ⟨w.heap.size, 0, none⟩)] (wr.alloc (.cells #[.bool true, .func (.func 58) #[] #[.pointer (some ⟨w.heap.size, 0, none⟩)]] 108)) fun r w' => r = .returned (.int .i64 ((stK p b n 1).1 : Int)) ∧ Bx N S w V0 w' d (stK p b n 1).2) := by rw [heq rfl]; exact sav1 HBX.out HS.out hN2 (by omega) k0
          clear hBx HBX heq heq2 k0 k1 k2 hst
          go_wp2_with fail
          refine HCL.out.mono ?_
          rintro r w6 ⟨rfl, hB6⟩
          have HB6 : Hid (Bx N S w V0 w6 d (stK p b n 1).2) := hB6
          clear hB6 HCL
          by_cases hx0 : (stK p b n 1).1 = 0
          · have HX0 : Hid ((stK p b n 1).1 = 0) := hx0
            rw [hx0]
            clear hx0
            go_wp2
            exact ⟨⟨1, rfl, by omega, HX0.out, HB6.out⟩, by simp [intOf]⟩
          · have hx0' : (((stK p b n 1).1 : Int) != 0) = true := by simp; omega
            have HEND : Hid (saveS p b n = stK p b n 1) := stK_end p b n (by omega) hx0
            have HTH : Hid (Then N S w w6 d (stK p b n 1).2) := HB6.out.thn HS.out hN2 (by omega)
            clear HB6
            generalize stK p b n 1 = x at *
            go_wp2
            go_ret
            rw [HEND.out]
            exact ⟨rfl, HTH.out⟩
        | false =>
          have HB7 : Hid (Bx N S w V0 (wr.alloc (.cells #[.bool false, .func (.func 58) #[] #[.pointer (some ⟨w.heap.size, 0, none⟩)]] 108)) d (stK p b n 1).2) := by show Bx _ _ _ _ _ _ _; rw [heq2 rfl]; exact hBx.below (by omega) ((Below.refl _ wr).alloc (Nat.le_refl _) _)
          have HST : Hid ((stK p b n 1).1 = 0) := by show _ = _; rw [heq2 rfl]
          clear hBx HBX heq heq2 k0 k1 k2 hst
          go_wp2
          exact ⟨⟨1, rfl, by omega, HST.out, HB7.out⟩, by simp [intOf]⟩
      · have HBX : Hid (Bx N S w V0 (wr.alloc (.cells #[.bool true, .func (.func 60) #[] #[.pointer (some ⟨w.heap.size, 0, none⟩)]] 108)) d (stK p b n 1).2) := hBx.below (by omega) ((Below.refl _ wr).alloc (Nat.le_refl _) _)
        have hlV : W2.heap.size < wr.heap.size := by have := hBx.ks; omega
        have heq : stK p b n 2 = doCreate (stK p b n 1).2 tmpL := by show thenP (st1 p) (fun q => doCreate q tmpL) = (fun q => doCreate q tmpL) (st1 p).2; exact thenP_ok hst
        have k0 := HBX.out.cell (Nat.le_refl _) (by omega) HZ0.out
        have k1 := HBX.out.cell (by omega) (by omega) HZ1.out
        have k2 := HBX.out.cell (by omega) (by omega) HZ2.out
        have HCL : Hid (Calls Tryz.prog 60 #[.pointer (some ⟨w.heap.size, 0, none⟩)] (wr.alloc (.cells #[.bool true, .func (.func 60) #[] #[.pointer (some ⟨w.heap.size, 0, none⟩)]] 108)) fun r w' => r = .returned (.int .i64 ((stK p b n 2).1 : Int)) ∧ Bx N S w V0 w' d (stK p b n 2).2) := by rw [heq]; exact sav2 HBX.out HS.out hN2 (by omega) k0
        clear hBx HBX heq k0 k1 k2 hst
        go_wp2_with fail
        refine HCL.out.mono ?_
        rintro r w6 ⟨rfl, hB6⟩
        have HB6 : Hid (Bx N S w V0 w6 d (stK p b n 2).2) := hB6
        clear hB6 HCL
        by_cases hx0 : (stK p b n 2).1 = 0
        · have HX0 : Hid ((stK p b n 2).1 = 0) := hx0
          rw [hx0]
          clear hx0
          go_wp2
          exact ⟨⟨2, rfl, by omega, HX0.out, HB6.out⟩, by simp [intOf]⟩
        · have hx0' : (((stK p b n 2).1 : Int) != 0) = true := by simp; omega
          have HEND : Hid (saveS p b n = stK p b n 2) := stK_end p b n (by omega) hx0
          have HTH : Hid (Then N S w w6 d (stK p b n 2).2) := HB6.out.thn HS.out hN2 (by omega)
          clear HB6
          generalize stK p b n 2 = x at *
          go_wp2
          go_ret
          rw [HEND.out]
          exact ⟨rfl, HTH.out⟩
      · have HBX : Hid (Bx N S w V0 (wr.alloc (.cells #[.bool true, .func (.func 61) #[] #[.pointer (some ⟨w.heap.size, 0, none⟩), .pointer (some ⟨w1.heap.size, 0, none⟩)]] 108)) d (stK p b n 2).2) := hBx.below (by omega) ((Below.refl _ wr).alloc (Nat.le_refl _) _)
        have hlV : W2.heap.size < wr.heap.size := by have := hBx.ks; omega
        have heq : stK p b n 3 = doAppend (stK p b n 2).2 tmpL b := by show thenP (st2 p) (fun q => doAppend q tmpL b) = (fun q => doAppend q tmpL b) (st2 p).2; exact thenP_ok hst
        have k0 := HBX.out.cell (Nat.le_refl _) (by omega) HZ0.out
        have k1 := HBX.out.cell (by omega) (by omega) HZ1.out
        have k2 := HBX.out.cell (by omega) (by omega) HZ2.out
        have kO : Ow w.heap.size (wr.alloc (.cells #[.bool true, .func (.func 61) #[] #[.pointer (some ⟨w.heap.size, 0, none⟩), .pointer (some ⟨w1.heap.size, 0, none⟩)]] 108)) (.slice ua b.length uc) b := HOV.out _ (fun i h1 h2 => HBX.out.keep i h1 h2)
        have HCL : Hid (Calls Tryz.prog 61 #[.pointer (some ⟨w.heap.size, 0, none⟩), .pointer (some ⟨w1.heap.size, 0, none⟩)] (wr.alloc (.cells #[.bool true, .func (.func 61) #[] #[.pointer (some ⟨w.heap.size, 0, none⟩), .pointer (some ⟨w1.heap.size, 0, none⟩)]] 108)) fun r w' => r = .returned (.int .i64 ((stK p b n 3).1 : Int)) ∧ Bx N S w V0 w' d (stK p b n 3).2) := by rw [heq]; exact sav3 HBX.out HS.out hN2 (by omega) k0 ua uc b k2 kO HUA.out
        clear hBx HBX heq k0 k1 k2 hst kO
        go_wp2_with fail
        refine HCL.out.mono ?_
        rintro r w6 ⟨rfl, hB6⟩
        have HB6 : Hid (Bx N S w V0 w6 d (stK p b n 3).2) := hB6
        clear hB6 HCL
        by_cases hx0 : (stK p b n 3).1 = 0
        · have HX0 : Hid ((stK p b n 3).1 = 0) := hx0
          rw [hx0]
          clear hx0
          go_wp2
          exact ⟨⟨3, rfl, by omega, HX0.out, HB6.out⟩, by simp [intOf]⟩
        · have hx0' : (((stK p b n 3).1 : Int) != 0) = true := by simp; omega
          have HEND : Hid (saveS p b n = stK p b n 3) := stK_end p b n (by omega) hx0
          have HTH : Hid (Then N S w w6 d (stK p b n 3).2) := HB6.out.thn HS.out hN2 (by omega)
          clear HB6
          generalize stK p b n 3 = x at *
          go_wp2
          go_ret
          rw [HEND.out]
          exact ⟨rfl, HTH.out⟩
      · have HBX : Hid (Bx N S w V0 (wr.alloc (.cells #[.bool true, .func (.func 62) #[] #[.pointer (some ⟨w.heap.size, 0, none⟩)]] 108)) d (stK p b n 3).2) := hBx.below (by omega) ((Below.refl _ wr).alloc (Nat.le_refl _) _)
        have hlV : W2.heap.size < wr.heap.size := by have := hBx.ks; omega
        have heq : stK p b n 4 = doSync (stK p b n 3).2 tmpL := by show thenP (st3 p b) (fun q => doSync q tmpL) = (fun q => doSync q tmpL) (st3 p b).2; exact thenP_ok hst
        have k0 := HBX.out.cell (Nat.le_refl _) (by omega) HZ0.out
        have k1 := HBX.out.cell (by omega) (by omega) HZ1.out
        have k2 := HBX.out.cell (by omega) (by omega) HZ2.out
        have HCL : Hid (Calls Tryz.prog 62 #[.pointer (some ⟨w.heap.size, 0, none⟩)] (wr.alloc (.cells #[.bool true, .func (.func 62) #[] #[.pointer (some ⟨w.heap.size, 0, none⟩)]] 108)) fun r w' => r = .returned (.int .i64 ((stK p b n 4).1 : Int)) ∧ Bx N S w V0 w' d (stK p b n 4).2) := by rw [heq]; exact sav4 HBX.out HS.out hN2 (by omega) k0
        clear hBx HBX heq k0 k1 k2 hst
        go_wp2_with fail
        refine HCL.out.mono ?_
        rintro r w6 ⟨rfl, hB6⟩
        have HB6 : Hid (Bx N S w V0 w6 d (stK p b n 4).2) := hB6
        clear hB6 HCL
        by_cases hx0 : (stK p b n 4).1 = 0
        · have HX0 : Hid ((stK p b n 4).1 = 0) := hx0
          rw [hx0]
          clear hx0
          go_wp2
          exact ⟨⟨4, rfl, by omega, HX0.out, HB6.out⟩, by simp [intOf]⟩
        · have hx0' : (((stK p b n 4).1 : Int) != 0) = true := by simp; omega
          have HEND : Hid (saveS p b n = stK p b n 4) := stK_end p b n (by omega) hx0
          have HTH : Hid (Then N S w w6 d (stK p b n 4).2) := HB6.out.thn HS.out hN2 (by omega)
          clear HB6
          generalize stK p b n 4 = x at *
          go_wp2
          go_ret
          rw [HEND.out]
          exact ⟨rfl, HTH.out⟩
      · have HBX : Hid (Bx N S w V0 (wr.alloc (.cells #[.bool true, .func (.func 63) #[] #[.pointer (some ⟨w.heap.size, 0, none⟩), .pointer (some ⟨w.heap.size + 1, 0, none⟩)]] 108)) d (stK p b n 4).2) := hBx.below (by omega) ((Below.refl _ wr).alloc (Nat.le_refl _) _)
        have hlV : W2.heap.size < wr.heap.size := by have := hBx.ks; omega
        have heq : stK p b n 5 = doRename (stK p b n 4).2 tmpL (nmL n) := by show thenP (st4 p b) (fun q => doRename q tmpL (nmL n)) = (fun q => doRename q tmpL (nmL n)) (st4 p b).2; exact thenP_ok hst
        have k0 := HBX.out.cell (Nat.le_refl _) (by omega) HZ0.out
        have k1 := HBX.out.cell (by omega) (by omega) HZ1.out
        have k2 := HBX.out.cell (by omega) (by omega) HZ2.out
        have HCL : Hid (Calls Tryz.prog 63 #[.pointer (some ⟨w.heap.size, 0, none⟩), .pointer (some ⟨w.heap.size + 1, 0, none⟩)] (wr.alloc (.cells #[.bool true, .func (.func 63) #[] #[.pointer (some ⟨w.heap.size, 0, none⟩), .pointer (some ⟨w.heap.size + 1, 0, none⟩)]] 108)) fun r w' => r = .returned (.int .i64 ((stK p b n 5).1 : Int)) ∧ Bx N S w V0 w' d (stK p b n 5).2) := by rw [heq]; exact sav5 HBX.out HS.out hN2 (by omega) HV.out k0 ⟨by omega, by omega⟩ n hi2 t _ k1 ⟨by omega, by omega⟩
        clear hBx HBX heq k0 k1 k2 hst
        go_wp2_with fail
        refine HCL.out.mono ?_
        rintro r w6 ⟨rfl, hB6⟩
        have HB6 : Hid (Bx N S w V0 w6 d (stK p b n 5).2) := hB6
        clear hB6 HCL
        by_cases hx0 : (stK p b n 5).1 = 0
        · have HX0 : Hid ((stK p b n 5).1 = 0) := hx0
          rw [hx0]
          clear hx0
          go_wp2
          exact ⟨⟨5, rfl, by omega, HX0.out, HB6.out⟩, by simp [intOf]⟩
        · have hx0' : (((stK p b n 5).1 : Int) != 0) = true := by simp; omega
          have HEND : Hid (saveS p b n = stK p b n 5) := stK_end p b n (by omega) hx0
          have HTH : Hid (Then N S w w6 d (stK p b n 5).2) := HB6.out.thn HS.out hN2 (by omega)
          clear HB6
          generalize stK p b n 5 = x at *
          go_wp2
          go_ret
          rw [HEND.out]
          exact ⟨rfl, HTH.out⟩
      · have HTH : Hid (Then N S w wr d (saveS p b n).2) := by show Then _ _ _ _ _ _; exact hBx.thn HS.out hN2 (by omega)
        have HX0 : Hid ((saveS p b n).1 = 0) := hst
        clear hBx hst
        go_wp2
        go_ret
        rw [HX0.out]
        exact ⟨rfl, HTH.out⟩
  · have hsv : saveP p i t m = (frmE i t m.length, p) := by unfold saveP; rw [if_pos hE]
    rw [hsv]
    have hE' : ((frmE i t m.length : Int) != 0) = true := by simp; omega
    have HTH : Hid (∀ V, Below W0.heap.size W0 V → Then N S w V d p) := fun V hV => ⟨(h.below (hB0.trans (hV.mono (by omega)))).wide (fun j hj => .inl hj) (fun j hj => hj.elim (fun h9 => by have := (hS j h9).1; have := hV.size; omega) (fun h9 => h9.2)) (fun j hj => hj.elim (fun h9 => (hS j h9).2) (fun h9 => by have := h9.1; omega)), Out.of_below (hB0.trans (hV.mono (by omega))), (hB0.trans (hV.mono (by omega))).mono hN⟩
    rw [if_neg hE] at HFR
    generalize frmE i t m.length = E at *
    clear hx0 hx1 hB0 h hv hS hx hM hE hsv hW0
    go_enter Tryz.func24, Tryz.ntmps24
    go_wp2_with fail
    rw [HW0.out]
    go_wp2_with fail
    refine HFR.out.mono ?_
    rintro r w1 ⟨u, rfl, hO1, hB1⟩
    have HT : Hid (∀ o, Then N S w (w1.alloc o) d p) := fun o => HTH.out _ (hB1.trans ((Below.refl _ w1).alloc (Nat.le_refl _) o |>.mono hB1.size))
    obtain ⟨ua, uc, hsh, hcp, hcm⟩ := hO1.shape
    subst hsh
    clear hO1 hB1 HTH HFR c0 c1 c2 c9
    go_wp2
    go_ret
    exact ⟨rfl, HT.out _⟩
end Go.Proofs.YtadajbdmlmickaaGreatDoor
