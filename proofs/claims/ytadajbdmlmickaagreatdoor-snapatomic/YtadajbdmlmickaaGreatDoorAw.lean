/-
  SnapAtomic: the law.
-/
import Derived.Test.YtadajbdmlmickaaGreatDoorRs
namespace Go.Proofs.YtadajbdmlmickaaGreatDoor
open Go.RowKit
set_option linter.unusedVariables false

theorem same_self2 (i t : Int) : (decide True && (i == i) && (t == t)) = true := by simp
theorem same_self (m : List UInt8) (i t : Int) : (decide (m = m) && (i == i) && (t == t)) = true := by simp

set_option maxRecDepth 100000 in
set_option maxHeartbeats 16000000 in
theorem atomic_walk (a : Option Addr) (c : Nat) (l : List Snp) (w : World) (h : SnpsAt w.heap.size w a l) (hl : l.length ≤ 9223372036854775807) (si st : Int) (sa : Option Addr) (sc : Nat) (sd : List UInt8) (hs : Sl w.heap.size w (.slice sa sd.length sc) sd) (arm keep : Int) (harm : arm < 9223372036854775808) (hv : ∀ V, Below w.heap.size w V → Vars V) :
    Calls Tryz.prog 5 #[.slice a l.length c, .agg #[.int .i64 si, .int .i64 st, .slice sa sd.length sc], .int .i64 arm, .int .i64 keep] w fun e w' => e = .returned (.bool true) ∧ Below w.heap.size w w' := by
  have hsl : sd.length ≤ 9223372036854775807 := by obtain ⟨a', c', e, h1, h2, -⟩ := hs; unfold maxLen at h2; injection e with e1 e2 e3; omega
  have HO : Hid (SnpsAt w.heap.size w a l) := h
  have HS : Hid (Sl w.heap.size w (.slice sa sd.length sc) sd) := hs
  have HV : Hid (∀ V, Below w.heap.size w V → Vars V) := hv
  obtain ⟨W0, hW0⟩ : ∃ W0, w.alloc (.cells #[.int .i64 si, .int .i64 st, .slice sa sd.length sc] 34) = W0 := ⟨_, rfl⟩
  have HW0 : Hid (w.alloc (.cells #[.int .i64 si, .int .i64 st, .slice sa sd.length sc] 34) = W0) := hW0
  have hB0 : Below w.heap.size w W0 := by rw [← hW0]; exact (Below.refl _ w).alloc (Nat.le_refl _) _
  have hz0 : w.heap.size < W0.heap.size := by rw [← hW0]; simp
  have hx0 : W0.heap[w.heap.size]? = some (.cells #[.int .i64 si, .int .i64 st, .slice sa sd.length sc] 34 (0, 0)) := by rw [← hW0]; exact heap_alloc_new w _
  have HB0 : Hid (Below w.heap.size w W0) := hB0
  have HX0 : Hid (W0.heap[w.heap.size]? = some (.cells #[.int .i64 si, .int .i64 st, .slice sa sd.length sc] 34 (0, 0))) := hx0
  have HF : Hid (Calls _ _ _ _ _) := first_s W0 (fun V hV => hv V (hB0.trans (hV.mono (by omega))))
  clear h hs hv hW0 hB0 hx0
  go_enter Tryz.func5, Tryz.ntmps5
  go_wp2_with fail
  rw [HW0.out]
  refine HF.out.mono ?_
  rintro r w1 ⟨rfl, hB1⟩
  have HX1 : Hid (w1.heap[w.heap.size]? = some (.cells #[.int .i64 si, .int .i64 st, .slice sa sd.length sc] 34 (0, 0))) := (hB1.block _ hz0).trans HX0.out
  have HB1 : Hid (Below w.heap.size w w1) := HB0.out.trans (hB1.mono (by omega))
  have hz1 : w.heap.size < w1.heap.size := by have := hB1.size; omega
  obtain ⟨⟨x0, x1, x2⟩, -⟩ := Cd.cells3 HX1.out
  clear hB1 HF HX0 HB0 HW0
  by_cases hm0 : 20000 < sd.length
  · have hm0' : (20000 : Int) < (sd.length : Int) := by omega
    go_wp2_with fail
    go_loopw [10, 11] (fun nv kv wr => ∃ (n : Int) (k : Nat), nv = .int .i64 n ∧ kv = .int .i64 (k : Int) ∧ k ≤ l.length ∧ k ≤ 20 ∧ 0 ≤ n ∧ n ≤ 1000000 + 20000 * k ∧ wr = w1) (fun _ kv _ => l.length - (intOf kv).toNat)
    case atStart => exact ⟨_, 0, rfl, rfl, Nat.zero_le _, by omega, by omega, by omega, rfl⟩
    case round =>
      obtain ⟨n, k, rfl, rfl, hk, hk20, hn0, hn1, hwr⟩ := hrel
      have hwr' := hwr.symm
      clear hwr
      subst hwr'
      by_cases hlt : k < l.length
      · have k0 : (0 : Int) ≤ (k : Int) := by omega
        have k1 : (k : Int) < (l.length : Int) := by omega
        by_cases h20 : k < 20
        · have h20' : (k : Int) < 20 := by omega
          obtain ⟨b, off, ha, hb, he⟩ := HO.out.at hlt
          subst ha
          have he1 := he.below hb HB1.out
          generalize l.getD k nilSnp = y at *
          obtain ⟨yi, yt, ya, yc, yd⟩ := y
          obtain ⟨⟨c0, c1, c2⟩, ysl⟩ := he1
          simp only at c0 c1 c2 ysl
          have hyl : yd.length ≤ 9223372036854775807 := by obtain ⟨a', c', e, h1, h2, -⟩ := ysl; unfold maxLen at h2; injection e with e1 e2 e3; omega
          have hbw : b < w1.heap.size := by omega
          clear he ysl
          by_cases hm : 20000 < yd.length
          · have hm' : (20000 : Int) < (yd.length : Int) := by omega
            go_wp2
            exact ⟨⟨_, k + 1, rfl, by go_num, by omega, by omega, by omega, by omega, by first | rfl | trivial⟩, by simp [intOf]; omega⟩
          · have hm' : ¬ (20000 : Int) < (yd.length : Int) := by omega
            go_wp2
            exact ⟨⟨_, k + 1, rfl, by go_num, by omega, by omega, by omega, by omega, by first | rfl | trivial⟩, by simp [intOf]; omega⟩
        · have h20' : ¬ (k : Int) < 20 := by omega
          have hl20 : (20 : Int) < (l.length : Int) := by omega
          go_wp2
          go_ret
          exact ⟨by simp, HB1.out⟩
      · have k1 : ¬ (k : Int) < (l.length : Int) := by omega
        have hl20 : ¬ (20 : Int) < (l.length : Int) := by omega
        by_cases hn2 : (20000 : Int) < n
        · go_wp2
          go_ret
          exact ⟨by simp, HB1.out⟩
        · have hl20' : l.length ≤ 20 := by omega
          go_wp2_with fail
          clear hlt k1 hk hk20 hn1
          refine (new_dsk w1.heap.size w1 (Nat.le_refl _)).mono ?_
          rintro r w2 ⟨rfl, hD2, hB2⟩
          obtain ⟨d, hd⟩ : ∃ d, w1.heap.size + 1 = d := ⟨_, rfl⟩
          rw [hd] at hD2 ⊢
          have HD2 : Hid (∃ S p, Dsk w1.heap.size w2 S d p ∧ Whl p) := ⟨_, _, hD2, Whl.nil _ _⟩
          have HB2 : Hid (Below w1.heap.size w1 w2) := hB2
          clear hd hD2 hB2 hn0 hn2
          obtain ⟨K, hK⟩ : ∃ K, w1.heap.size = K := ⟨_, rfl⟩
          have HK : Hid (w1.heap.size = K) := hK
          rw [hK] at HD2 HB2
          clear hK
          go_wp2_with fail
          go_loopw [13] (fun kv wx => ∃ k : Nat, kv = .int .i64 (k : Int) ∧ k ≤ l.length ∧ Below K w1 wx ∧ ∃ S p, Dsk K wx S d p ∧ Whl p) (fun kv _ => l.length - (intOf kv).toNat)
          case atStart => exact ⟨0, rfl, Nat.zero_le _, HB2.out, HD2.out⟩
          case round =>
            obtain ⟨k, rfl, hk, hBk, S, p, hDk, hWk⟩ := hrel
            have hKz : K ≤ wr.heap.size := by have := hBk.size; have := HK.out; omega
            have HBk : Hid (Below w.heap.size w wr) := HB1.out.trans (hBk.mono (by have := HK.out; omega))
            have HBK : Hid (Below K w1 wr) := hBk
            have HDk : Hid (Dsk K wr S d p) := hDk
            have HWk : Hid (Whl p) := hWk
            have hwK : w.heap.size < K := by have := HK.out; omega
            clear hBk hDk hWk HD2 HB2
            by_cases hlt : k < l.length
            · have k0 : (0 : Int) ≤ (k : Int) := by omega
              have k1 : (k : Int) < (l.length : Int) := by omega
              obtain ⟨b, off, ha, hb, he⟩ := HO.out.at hlt
              subst ha
              have he1 := he.below hb HBk.out
              generalize l.getD k nilSnp = y at *
              obtain ⟨yi, yt, ya, yc, yd⟩ := y
              obtain ⟨⟨c0, c1, c2⟩, ysl⟩ := he1
              simp only at c0 c1 c2 ysl
              have hbw : b < wr.heap.size := by omega
              have HSV : Hid (Calls _ _ _ _ _) := save_any HDk.out hKz (fun V hV => HV.out V (HBk.out.trans (hV.mono (by omega)))) yi yt yd ya yc w.heap.size ysl (by omega)
              clear he ysl
              go_wp2_with fail
              refine HSV.out.mono ?_
              rintro r w3 ⟨rfl, hT3⟩
              have HNX : Hid (Below K w1 w3 ∧ ∃ S p, Dsk K w3 S d p ∧ Whl p) := ⟨HBK.out.trans hT3.bel, _, _, hT3.dsk, HWk.out.save yi yt yd⟩
              clear hT3 HSV c0 c1 c2
              go_wp2
              exact ⟨⟨k + 1, by go_num, by omega, HNX.out.1, HNX.out.2⟩, by simp [intOf]; omega⟩
            · have k1 : ¬ (k : Int) < (l.length : Int) := by omega
              have HSS : Hid (∀ i, S i → i < wr.heap.size ∧ K ≤ i) := fun i hi => ⟨HDk.out.inn i hi, HDk.out.from i hi⟩
              have HVV : Hid (∀ V, Below K wr V → Vars V) := fun V hV => HV.out V (HBk.out.trans (hV.mono (by omega)))
              have HL : Hid (Calls _ _ _ _ _) := load_any HDk.out (fun V hV => HVV.out V (hV.mono hKz))
              obtain ⟨x, hx⟩ : ∃ x, loadS p = x := ⟨_, rfl⟩
              have HXP : Hid (loadS p = x) := hx
              rw [hx] at HL
              clear hx
              obtain ⟨⟨wi, wt, wm⟩, wk, we⟩ := x
              have HSK : Hid (∀ V, Below K wr V → V.heap[w.heap.size]? = some (.cells #[.int .i64 si, .int .i64 st, .slice sa sd.length sc] 34 (0, 0)) ∧ Sl K V (.slice sa sd.length sc) sd) := fun V hV => ⟨((HBK.out.trans hV).block _ hwK).trans HX1.out, (HS.out.below (HBk.out.trans (hV.mono (by omega)))).mono (by omega)⟩
              go_wp2_with fail
              refine HL.out.mono ?_
              rintro r w4 ⟨u4, rfl, hO4, hB4⟩
              obtain ⟨a4, c4, hsh, -, -⟩ := hO4.shape
              subst hsh
              simp only at hO4 ⊢
              obtain ⟨V0, hV0⟩ : ∃ V0, w4.alloc (.cells #[.int .i64 (wi : Int), .int .i64 (wt : Int), .slice a4 wm.length c4] 34) = V0 := ⟨_, rfl⟩
              have HV0 : Hid (w4.alloc (.cells #[.int .i64 (wi : Int), .int .i64 (wt : Int), .slice a4 wm.length c4] 34) = V0) := hV0
              have hB4V : Below w4.heap.size w4 V0 := by rw [← hV0]; exact (Below.refl _ w4).alloc (Nat.le_refl _) _
              have hx4 : V0.heap[w4.heap.size]? = some (.cells #[.int .i64 (wi : Int), .int .i64 (wt : Int), .slice a4 wm.length c4] 34 (0, 0)) := by rw [← hV0]; exact heap_alloc_new w4 _
              have hBV : Below wr.heap.size wr V0 := hB4.trans (hB4V.mono hB4.size)
              have HX4 : Hid (V0.heap[w4.heap.size]? = some (.cells #[.int .i64 (wi : Int), .int .i64 (wt : Int), .slice a4 wm.length c4] 34 (0, 0))) := hx4
              have hz4 : wr.heap.size ≤ w4.heap.size ∧ w4.heap.size < V0.heap.size := ⟨hB4.size, (Array.getElem?_eq_some_iff.1 hx4).1⟩
              have hzV : wr.heap.size ≤ V0.heap.size := hBV.size
              have HOV : Hid (Ow wr.heap.size V0 (.slice a4 wm.length c4) wm) := hO4.below hB4V (Nat.le_refl _)
              have HBX : Hid (Bx K S wr V0 V0 d p) := Bx.start HDk.out hBV
              have HAR : Hid (Calls _ _ _ _ _) := HBX.out.arm HSS.out hKz hzV arm harm
              clear hO4 hB4 hV0 hB4V hx4 hBV HL
              go_wp2_with fail
              rw [HV0.out]
              refine HAR.out.mono ?_
              rintro r w5 ⟨rfl, hb5⟩
              have HBX5 : Hid (Bx K S wr V0 w5 d { p with arm := arm.toNat }) := hb5
              obtain ⟨hx5, hs5⟩ := HSK.out w5 (hb5.bel HSS.out hKz)
              obtain ⟨⟨y0, y1, y2⟩, -⟩ := Cd.cells3 hx5
              have hl5 : w.heap.size < w5.heap.size := (Array.getElem?_eq_some_iff.1 hx5).1
              have HSV : Hid (Calls _ _ _ _ _) := hb5.save HSS.out hKz hzV HVV.out si st sd sa sc hs5
              clear hb5 hx5 hs5 HAR
              go_wp2_with fail
              refine HSV.out.mono ?_
              rintro r w6 ⟨rfl, hb6⟩
              have HBX6 : Hid (Bx K S wr V0 w6 d (saveP { p with arm := arm.toNat } si st sd).2) := hb6
              have HCR : Hid (Calls _ _ _ _ _) := hb6.crash HSS.out hKz hzV keep
              obtain ⟨f, hf⟩ : ∃ f, (saveP { p with arm := arm.toNat } si st sd).1 = f := ⟨_, rfl⟩
              have HFF : Hid ((saveP { p with arm := arm.toNat } si st sd).1 = f) := hf
              rw [hf]
              clear hb6 HSV y0 y1 y2 hf
              go_wp2_with fail
              refine HCR.out.mono ?_
              rintro r w7 ⟨rfl, hb7⟩
              have HBX7 : Hid (Bx K S wr V0 w7 d (doCrash (saveP { p with arm := arm.toNat } si st sd).2 keep)) := hb7
              have HAT := atom HDk.out.rise HWk.out arm.toNat si st sd keep hb7.rise
              rw [HXP.out, HFF.out] at HAT
              have HL7 : Hid (Calls _ _ _ _ _) := hb7.load HSS.out hKz HVV.out
              obtain ⟨y, hy⟩ : ∃ y, loadS (doCrash (saveP { p with arm := arm.toNat } si st sd).2 keep) = y := ⟨_, rfl⟩
              rw [hy] at HAT HL7
              have HA2 : Hid ((y = ((wi, wt, wm), wk, we) ∧ (f = 0 → si < (wi : Int)) ∧ wk = 0) ∨ (f = 0 ∧ y = ((si.toNat, st.toNat, sd), 0, 0) ∧ (wi : Int) ≤ si ∧ ((si.toNat : Nat) : Int) = si ∧ ((st.toNat : Nat) : Int) = st)) := HAT
              clear hb7 HCR hy HAT HBX5 HBX6 HXP
              obtain ⟨⟨ni, nt, nm⟩, nk, ne⟩ := y
              go_wp2_with fail
              refine HL7.out.mono ?_
              rintro r w8 ⟨u8, rfl, hO8, hB8⟩
              obtain ⟨a8, c8, hsh, -, -⟩ := hO8.shape
              subst hsh
              simp only at hO8 ⊢
              obtain ⟨V8, hV8⟩ : ∃ V8, w8.alloc (.cells #[.int .i64 (ni : Int), .int .i64 (nt : Int), .slice a8 nm.length c8] 34) = V8 := ⟨_, rfl⟩
              have HV8 : Hid (w8.alloc (.cells #[.int .i64 (ni : Int), .int .i64 (nt : Int), .slice a8 nm.length c8] 34) = V8) := hV8
              have hB8V : Below w8.heap.size w8 V8 := by rw [← hV8]; exact (Below.refl _ w8).alloc (Nat.le_refl _) _
              have hB78 : Below w7.heap.size w7 V8 := hB8.trans (hB8V.mono hB8.size)
              have hBX8 : Bx K S wr V0 V8 d (doCrash (saveP { p with arm := arm.toNat } si st sd).2 keep) := HBX7.out.below hzV hB78
              have hbel8 := hBX8.bel HSS.out hKz
              have hx8 : V8.heap[w8.heap.size]? = some (.cells #[.int .i64 (ni : Int), .int .i64 (nt : Int), .slice a8 nm.length c8] 34 (0, 0)) := by rw [← hV8]; exact heap_alloc_new w8 _
              obtain ⟨hs8, hss8⟩ := HSK.out V8 hbel8
              have hw8 := hBX8.cell (i := w4.heap.size) hz4.1 hz4.2 HX4.out
              have hwO := (hBX8.ow HOV.out).sl (Nat.le_refl _)
              have hnO := (hO8.below hB8V (Nat.le_refl _)).sl (Nat.le_refl _)
              have hsO : Sl V8.heap.size V8 (.slice sa sd.length sc) sd := hss8.mono (by have := hbel8.size; omega)
              have HFB : Hid (∀ V, Below V8.heap.size V8 V → Below w.heap.size w V) := fun V hV => (HBk.out.trans (hbel8.mono (by omega))).trans (hV.mono (by have := hbel8.size; omega))
              have HSM1 : Hid (∀ V, Below V8.heap.size V8 V → Calls Tryz.prog 14 #[.agg #[.int .i64 (wi : Int), .int .i64 (wt : Int), .slice a4 wm.length c4], .agg #[.int .i64 (ni : Int), .int .i64 (nt : Int), .slice a8 nm.length c8]] V fun e w' => e = .returned (.bool (decide (wm = nm) && ((wi : Int) == (ni : Int)) && ((wt : Int) == (nt : Int)))) ∧ Below V8.heap.size V8 w') := fun V hV =>
                (Cd.sameSnap_any _ _ _ _ wm _ _ _ _ nm V8.heap.size V (show Cd.Sl _ _ _ _ from hwO.below hV) (show Cd.Sl _ _ _ _ from hnO.below hV) hV.size).mono fun e w' hh => ⟨hh.1, hV.trans (hh.2.mono hV.size)⟩
              have HSM2 : Hid (∀ V, Below V8.heap.size V8 V → Calls Tryz.prog 14 #[.agg #[.int .i64 (ni : Int), .int .i64 (nt : Int), .slice a8 nm.length c8], .agg #[.int .i64 si, .int .i64 st, .slice sa sd.length sc]] V fun e w' => e = .returned (.bool (decide (nm = sd) && ((ni : Int) == si) && ((nt : Int) == st))) ∧ Below V8.heap.size V8 w') := fun V hV =>
                (Cd.sameSnap_any _ _ _ _ nm _ _ _ _ sd V8.heap.size V (show Cd.Sl _ _ _ _ from hnO.below hV) (show Cd.Sl _ _ _ _ from hsO.below hV) hV.size).mono fun e w' hh => ⟨hh.1, hV.trans (hh.2.mono hV.size)⟩
              have HCE : Hid (∀ V, Below V8.heap.size V8 V → (V.cell? ⟨w.heap.size, 0, none⟩ = some (.int .i64 si) ∧ V.cell? ⟨w.heap.size, 1, none⟩ = some (.int .i64 st) ∧ V.cell? ⟨w.heap.size, 2, none⟩ = some (.slice sa sd.length sc)) ∧ (V.cell? ⟨w4.heap.size, 0, none⟩ = some (.int .i64 (wi : Int)) ∧ V.cell? ⟨w4.heap.size, 1, none⟩ = some (.int .i64 (wt : Int)) ∧ V.cell? ⟨w4.heap.size, 2, none⟩ = some (.slice a4 wm.length c4)) ∧ (V.cell? ⟨w8.heap.size, 0, none⟩ = some (.int .i64 (ni : Int)) ∧ V.cell? ⟨w8.heap.size, 1, none⟩ = some (.int .i64 (nt : Int)) ∧ V.cell? ⟨w8.heap.size, 2, none⟩ = some (.slice a8 nm.length c8)) ∧ (w.heap.size < V.heap.size ∧ w4.heap.size < V.heap.size ∧ w8.heap.size < V.heap.size)) := fun V hV =>
                ⟨(Cd.cells3 ((hV.block _ (Array.getElem?_eq_some_iff.1 hs8).1).trans hs8)).1, (Cd.cells3 ((hV.block _ (Array.getElem?_eq_some_iff.1 hw8).1).trans hw8)).1, (Cd.cells3 ((hV.block _ (Array.getElem?_eq_some_iff.1 hx8).1).trans hx8)).1, Nat.lt_of_lt_of_le (Array.getElem?_eq_some_iff.1 hs8).1 hV.size, Nat.lt_of_lt_of_le (Array.getElem?_eq_some_iff.1 hw8).1 hV.size, Nat.lt_of_lt_of_le (Array.getElem?_eq_some_iff.1 hx8).1 hV.size⟩
              have HR8 : Hid (Below V8.heap.size V8 V8) := Below.refl _ _
              clear hO8 hB8 hV8 hB8V hB78 hBX8 hbel8 hx8 hs8 hss8 hw8 hwO hnO hsO HL7 HBX7 HBX HSS HVV HSK HX4 HOV HDk HWk HV0 x0 x1 x2 HX1 HB1 HBK HBk HV HS HO
              go_wp2_with fail
              rw [HV8.out]
              obtain ⟨⟨s0, s1, s2⟩, ⟨p0, p1, p2⟩, ⟨q0, q1, q2⟩, l0, l1, l2⟩ := HCE.out V8 HR8.out
              rcases HA2.out with ⟨e1, e2, e3⟩ | ⟨e1, e2, e3, e4, e5⟩
              · simp only [Prod.mk.injEq] at e1
                obtain ⟨⟨h1, h2, h3⟩, h4, h5⟩ := e1
                subst h1 h2 h3 h4 h5 e3
                clear HA2
                go_wp2_with (first | (go_at_call 18; refine (num_any _ _).mono ?_; rintro e wz ⟨rfl, hwz⟩; subst wz) | fail)
                refine (HSM1.out V8 HR8.out).mono ?_
                rintro e w9 ⟨rfl, hB9⟩
                first | rw [same_self] | rw [same_self2]
                clear s0 s1 s2 p0 p1 p2 q0 q1 q2 l0 l1 l2
                obtain ⟨⟨s0, s1, s2⟩, ⟨p0, p1, p2⟩, ⟨q0, q1, q2⟩, l0, l1, l2⟩ := HCE.out w9 hB9
                clear HSM1
                by_cases hwe : ne = 0
                · subst hwe
                  go_wp2_with (first | (go_at_call 18; refine (num_any _ _).mono ?_; rintro e wz ⟨rfl, hwz⟩; subst wz) | fail)
                  refine (HSM2.out w9 hB9).mono ?_
                  rintro e w10 ⟨rfl, hB10⟩
                  clear s0 s1 s2 p0 p1 p2 q0 q1 q2 l0 l1 l2
                  obtain ⟨⟨s0, s1, s2⟩, ⟨p0, p1, p2⟩, ⟨q0, q1, q2⟩, l0, l1, l2⟩ := HCE.out w10 hB10
                  clear HSM2
                  generalize (decide (nm = sd) && ((ni : Int) == si) && ((nt : Int) == st)) = u
                  cases u
                  · by_cases hf : f = 0
                    · have hlt := e2 hf
                      have hge : ¬ (ni : Int) ≤ si := by omega
                      subst hf
                      clear e2
                      go_wp2_with (first | (go_at_call 18; refine (num_any _ _).mono ?_; rintro e wz ⟨rfl, hwz⟩; subst wz) | fail)
                      go_ret
                      exact ⟨by first | rfl | simp, HFB.out _ hB10⟩
                    · have hf' : ((f : Int) == 0) = false := by simp; omega
                      clear e2
                      go_wp2_with (first | (go_at_call 18; refine (num_any _ _).mono ?_; rintro e wz ⟨rfl, hwz⟩; subst wz) | fail)
                      go_ret
                      exact ⟨by first | rfl | simp, HFB.out _ hB10⟩
                  · by_cases hf : f = 0
                    · have hlt := e2 hf
                      have hge : ¬ (ni : Int) ≤ si := by omega
                      subst hf
                      clear e2
                      go_wp2_with (first | (go_at_call 18; refine (num_any _ _).mono ?_; rintro e wz ⟨rfl, hwz⟩; subst wz) | fail)
                      go_ret
                      exact ⟨by first | rfl | simp, HFB.out _ hB10⟩
                    · have hf' : ((f : Int) == 0) = false := by simp; omega
                      clear e2
                      go_wp2_with (first | (go_at_call 18; refine (num_any _ _).mono ?_; rintro e wz ⟨rfl, hwz⟩; subst wz) | fail)
                      go_ret
                      exact ⟨by first | rfl | simp, HFB.out _ hB10⟩
                · have hwe' : ((ne : Int) == 0) = false := by simp; omega
                  by_cases hf : f = 0
                  · have hlt := e2 hf
                    have hge : ¬ (ni : Int) ≤ si := by omega
                    subst hf
                    clear e2
                    go_wp2_with (first | (go_at_call 18; refine (num_any _ _).mono ?_; rintro e wz ⟨rfl, hwz⟩; subst wz) | fail)
                    go_ret
                    exact ⟨by first | rfl | simp, HFB.out _ hB9⟩
                  · have hf' : ((f : Int) == 0) = false := by simp; omega
                    clear e2
                    go_wp2_with (first | (go_at_call 18; refine (num_any _ _).mono ?_; rintro e wz ⟨rfl, hwz⟩; subst wz) | fail)
                    go_ret
                    exact ⟨by first | rfl | simp, HFB.out _ hB9⟩
              · simp only [Prod.mk.injEq] at e2
                obtain ⟨⟨h1, h2, h3⟩, h4, h5⟩ := e2
                have hsi : si = (ni : Int) := by omega
                have hst : st = (nt : Int) := by omega
                clear h1 h2 e4 e5 HA2
                subst hsi hst h4 h5 e1
                subst h3
                by_cases hwe : we = 0
                · subst hwe
                  go_wp2_with (first | (go_at_call 18; refine (num_any _ _).mono ?_; rintro e wz ⟨rfl, hwz⟩; subst wz) | fail)
                  refine (HSM1.out V8 HR8.out).mono ?_
                  rintro e w9 ⟨rfl, hB9⟩
                  clear s0 s1 s2 p0 p1 p2 q0 q1 q2 l0 l1 l2
                  obtain ⟨⟨s0, s1, s2⟩, ⟨p0, p1, p2⟩, ⟨q0, q1, q2⟩, l0, l1, l2⟩ := HCE.out w9 hB9
                  clear HSM1
                  generalize (decide (wm = nm) && ((wi : Int) == (ni : Int)) && ((wt : Int) == (nt : Int))) = u
                  go_wp2_with (first | (go_at_call 18; refine (num_any _ _).mono ?_; rintro e wz ⟨rfl, hwz⟩; subst wz) | fail)
                  refine (HSM2.out w9 hB9).mono ?_
                  rintro e w10 ⟨rfl, hB10⟩
                  first | rw [same_self] | rw [same_self2]
                  clear s0 s1 s2 p0 p1 p2 q0 q1 q2 l0 l1 l2
                  obtain ⟨⟨s0, s1, s2⟩, ⟨p0, p1, p2⟩, ⟨q0, q1, q2⟩, l0, l1, l2⟩ := HCE.out w10 hB10
                  clear HSM2
                  cases u
                  · skip
                    go_wp2_with (first | (go_at_call 18; refine (num_any _ _).mono ?_; rintro e wz ⟨rfl, hwz⟩; subst wz) | fail)
                    go_ret
                    exact ⟨by first | rfl | simp, HFB.out _ hB10⟩
                  · skip
                    go_wp2_with (first | (go_at_call 18; refine (num_any _ _).mono ?_; rintro e wz ⟨rfl, hwz⟩; subst wz) | fail)
                    go_ret
                    exact ⟨by first | rfl | simp, HFB.out _ hB10⟩
                · have hwe' : ((we : Int) == 0) = false := by simp; omega
                  go_wp2_with (first | (go_at_call 18; refine (num_any _ _).mono ?_; rintro e wz ⟨rfl, hwz⟩; subst wz) | fail)
                  refine (HSM2.out V8 HR8.out).mono ?_
                  rintro e w10 ⟨rfl, hB10⟩
                  first | rw [same_self] | rw [same_self2]
                  clear s0 s1 s2 p0 p1 p2 q0 q1 q2 l0 l1 l2
                  obtain ⟨⟨s0, s1, s2⟩, ⟨p0, p1, p2⟩, ⟨q0, q1, q2⟩, l0, l1, l2⟩ := HCE.out w10 hB10
                  clear HSM2 HSM1
                  go_wp2_with (first | (go_at_call 18; refine (num_any _ _).mono ?_; rintro e wz ⟨rfl, hwz⟩; subst wz) | fail)
                  go_ret
                  exact ⟨by first | rfl | simp, HFB.out _ hB10⟩
  · have hm0' : ¬ (20000 : Int) < (sd.length : Int) := by omega
    go_wp2_with fail
    go_loopw [10, 11] (fun nv kv wr => ∃ (n : Int) (k : Nat), nv = .int .i64 n ∧ kv = .int .i64 (k : Int) ∧ k ≤ l.length ∧ k ≤ 20 ∧ 0 ≤ n ∧ n ≤ 1000000 + 20000 * k ∧ wr = w1) (fun _ kv _ => l.length - (intOf kv).toNat)
    case atStart => exact ⟨_, 0, rfl, rfl, Nat.zero_le _, by omega, by omega, by omega, rfl⟩
    case round =>
      obtain ⟨n, k, rfl, rfl, hk, hk20, hn0, hn1, hwr⟩ := hrel
      have hwr' := hwr.symm
      clear hwr
      subst hwr'
      by_cases hlt : k < l.length
      · have k0 : (0 : Int) ≤ (k : Int) := by omega
        have k1 : (k : Int) < (l.length : Int) := by omega
        by_cases h20 : k < 20
        · have h20' : (k : Int) < 20 := by omega
          obtain ⟨b, off, ha, hb, he⟩ := HO.out.at hlt
          subst ha
          have he1 := he.below hb HB1.out
          generalize l.getD k nilSnp = y at *
          obtain ⟨yi, yt, ya, yc, yd⟩ := y
          obtain ⟨⟨c0, c1, c2⟩, ysl⟩ := he1
          simp only at c0 c1 c2 ysl
          have hyl : yd.length ≤ 9223372036854775807 := by obtain ⟨a', c', e, h1, h2, -⟩ := ysl; unfold maxLen at h2; injection e with e1 e2 e3; omega
          have hbw : b < w1.heap.size := by omega
          clear he ysl
          by_cases hm : 20000 < yd.length
          · have hm' : (20000 : Int) < (yd.length : Int) := by omega
            go_wp2
            exact ⟨⟨_, k + 1, rfl, by go_num, by omega, by omega, by omega, by omega, by first | rfl | trivial⟩, by simp [intOf]; omega⟩
          · have hm' : ¬ (20000 : Int) < (yd.length : Int) := by omega
            go_wp2
            exact ⟨⟨_, k + 1, rfl, by go_num, by omega, by omega, by omega, by omega, by first | rfl | trivial⟩, by simp [intOf]; omega⟩
        · have h20' : ¬ (k : Int) < 20 := by omega
          have hl20 : (20 : Int) < (l.length : Int) := by omega
          go_wp2
          go_ret
          exact ⟨by simp, HB1.out⟩
      · have k1 : ¬ (k : Int) < (l.length : Int) := by omega
        have hl20 : ¬ (20 : Int) < (l.length : Int) := by omega
        by_cases hn2 : (20000 : Int) < n
        · go_wp2
          go_ret
          exact ⟨by simp, HB1.out⟩
        · have hl20' : l.length ≤ 20 := by omega
          go_wp2_with fail
          clear hlt k1 hk hk20 hn1
          refine (new_dsk w1.heap.size w1 (Nat.le_refl _)).mono ?_
          rintro r w2 ⟨rfl, hD2, hB2⟩
          obtain ⟨d, hd⟩ : ∃ d, w1.heap.size + 1 = d := ⟨_, rfl⟩
          rw [hd] at hD2 ⊢
          have HD2 : Hid (∃ S p, Dsk w1.heap.size w2 S d p ∧ Whl p) := ⟨_, _, hD2, Whl.nil _ _⟩
          have HB2 : Hid (Below w1.heap.size w1 w2) := hB2
          clear hd hD2 hB2 hn0 hn2
          obtain ⟨K, hK⟩ : ∃ K, w1.heap.size = K := ⟨_, rfl⟩
          have HK : Hid (w1.heap.size = K) := hK
          rw [hK] at HD2 HB2
          clear hK
          go_wp2_with fail
          go_loopw [13] (fun kv wx => ∃ k : Nat, kv = .int .i64 (k : Int) ∧ k ≤ l.length ∧ Below K w1 wx ∧ ∃ S p, Dsk K wx S d p ∧ Whl p) (fun kv _ => l.length - (intOf kv).toNat)
          case atStart => exact ⟨0, rfl, Nat.zero_le _, HB2.out, HD2.out⟩
          case round =>
            obtain ⟨k, rfl, hk, hBk, S, p, hDk, hWk⟩ := hrel
            have hKz : K ≤ wr.heap.size := by have := hBk.size; have := HK.out; omega
            have HBk : Hid (Below w.heap.size w wr) := HB1.out.trans (hBk.mono (by have := HK.out; omega))
            have HBK : Hid (Below K w1 wr) := hBk
            have HDk : Hid (Dsk K wr S d p) := hDk
            have HWk : Hid (Whl p) := hWk
            have hwK : w.heap.size < K := by have := HK.out; omega
            clear hBk hDk hWk HD2 HB2
            by_cases hlt : k < l.length
            · have k0 : (0 : Int) ≤ (k : Int) := by omega
              have k1 : (k : Int) < (l.length : Int) := by omega
              obtain ⟨b, off, ha, hb, he⟩ := HO.out.at hlt
              subst ha
              have he1 := he.below hb HBk.out
              generalize l.getD k nilSnp = y at *
              obtain ⟨yi, yt, ya, yc, yd⟩ := y
              obtain ⟨⟨c0, c1, c2⟩, ysl⟩ := he1
              simp only at c0 c1 c2 ysl
              have hbw : b < wr.heap.size := by omega
              have HSV : Hid (Calls _ _ _ _ _) := save_any HDk.out hKz (fun V hV => HV.out V (HBk.out.trans (hV.mono (by omega)))) yi yt yd ya yc w.heap.size ysl (by omega)
              clear he ysl
              go_wp2_with fail
              refine HSV.out.mono ?_
              rintro r w3 ⟨rfl, hT3⟩
              have HNX : Hid (Below K w1 w3 ∧ ∃ S p, Dsk K w3 S d p ∧ Whl p) := ⟨HBK.out.trans hT3.bel, _, _, hT3.dsk, HWk.out.save yi yt yd⟩
              clear hT3 HSV c0 c1 c2
              go_wp2
              exact ⟨⟨k + 1, by go_num, by omega, HNX.out.1, HNX.out.2⟩, by simp [intOf]; omega⟩
            · have k1 : ¬ (k : Int) < (l.length : Int) := by omega
              have HSS : Hid (∀ i, S i → i < wr.heap.size ∧ K ≤ i) := fun i hi => ⟨HDk.out.inn i hi, HDk.out.from i hi⟩
              have HVV : Hid (∀ V, Below K wr V → Vars V) := fun V hV => HV.out V (HBk.out.trans (hV.mono (by omega)))
              have HL : Hid (Calls _ _ _ _ _) := load_any HDk.out (fun V hV => HVV.out V (hV.mono hKz))
              obtain ⟨x, hx⟩ : ∃ x, loadS p = x := ⟨_, rfl⟩
              have HXP : Hid (loadS p = x) := hx
              rw [hx] at HL
              clear hx
              obtain ⟨⟨wi, wt, wm⟩, wk, we⟩ := x
              have HSK : Hid (∀ V, Below K wr V → V.heap[w.heap.size]? = some (.cells #[.int .i64 si, .int .i64 st, .slice sa sd.length sc] 34 (0, 0)) ∧ Sl K V (.slice sa sd.length sc) sd) := fun V hV => ⟨((HBK.out.trans hV).block _ hwK).trans HX1.out, (HS.out.below (HBk.out.trans (hV.mono (by omega)))).mono (by omega)⟩
              go_wp2_with fail
              refine HL.out.mono ?_
              rintro r w4 ⟨u4, rfl, hO4, hB4⟩
              obtain ⟨a4, c4, hsh, -, -⟩ := hO4.shape
              subst hsh
              simp only at hO4 ⊢
              obtain ⟨V0, hV0⟩ : ∃ V0, w4.alloc (.cells #[.int .i64 (wi : Int), .int .i64 (wt : Int), .slice a4 wm.length c4] 34) = V0 := ⟨_, rfl⟩
              have HV0 : Hid (w4.alloc (.cells #[.int .i64 (wi : Int), .int .i64 (wt : Int), .slice a4 wm.length c4] 34) = V0) := hV0
              have hB4V : Below w4.heap.size w4 V0 := by rw [← hV0]; exact (Below.refl _ w4).alloc (Nat.le_refl _) _
              have hx4 : V0.heap[w4.heap.size]? = some (.cells #[.int .i64 (wi : Int), .int .i64 (wt : Int), .slice a4 wm.length c4] 34 (0, 0)) := by rw [← hV0]; exact heap_alloc_new w4 _
              have hBV : Below wr.heap.size wr V0 := hB4.trans (hB4V.mono hB4.size)
              have HX4 : Hid (V0.heap[w4.heap.size]? = some (.cells #[.int .i64 (wi : Int), .int .i64 (wt : Int), .slice a4 wm.length c4] 34 (0, 0))) := hx4
              have hz4 : wr.heap.size ≤ w4.heap.size ∧ w4.heap.size < V0.heap.size := ⟨hB4.size, (Array.getElem?_eq_some_iff.1 hx4).1⟩
              have hzV : wr.heap.size ≤ V0.heap.size := hBV.size
              have HOV : Hid (Ow wr.heap.size V0 (.slice a4 wm.length c4) wm) := hO4.below hB4V (Nat.le_refl _)
              have HBX : Hid (Bx K S wr V0 V0 d p) := Bx.start HDk.out hBV
              have HAR : Hid (Calls _ _ _ _ _) := HBX.out.arm HSS.out hKz hzV arm harm
              clear hO4 hB4 hV0 hB4V hx4 hBV HL
              go_wp2_with fail
              rw [HV0.out]
              refine HAR.out.mono ?_
              rintro r w5 ⟨rfl, hb5⟩
              have HBX5 : Hid (Bx K S wr V0 w5 d { p with arm := arm.toNat }) := hb5
              obtain ⟨hx5, hs5⟩ := HSK.out w5 (hb5.bel HSS.out hKz)
              obtain ⟨⟨y0, y1, y2⟩, -⟩ := Cd.cells3 hx5
              have hl5 : w.heap.size < w5.heap.size := (Array.getElem?_eq_some_iff.1 hx5).1
              have HSV : Hid (Calls _ _ _ _ _) := hb5.save HSS.out hKz hzV HVV.out si st sd sa sc hs5
              clear hb5 hx5 hs5 HAR
              go_wp2_with fail
              refine HSV.out.mono ?_
              rintro r w6 ⟨rfl, hb6⟩
              have HBX6 : Hid (Bx K S wr V0 w6 d (saveP { p with arm := arm.toNat } si st sd).2) := hb6
              have HCR : Hid (Calls _ _ _ _ _) := hb6.crash HSS.out hKz hzV keep
              obtain ⟨f, hf⟩ : ∃ f, (saveP { p with arm := arm.toNat } si st sd).1 = f := ⟨_, rfl⟩
              have HFF : Hid ((saveP { p with arm := arm.toNat } si st sd).1 = f) := hf
              rw [hf]
              clear hb6 HSV y0 y1 y2 hf
              go_wp2_with fail
              refine HCR.out.mono ?_
              rintro r w7 ⟨rfl, hb7⟩
              have HBX7 : Hid (Bx K S wr V0 w7 d (doCrash (saveP { p with arm := arm.toNat } si st sd).2 keep)) := hb7
              have HAT := atom HDk.out.rise HWk.out arm.toNat si st sd keep hb7.rise
              rw [HXP.out, HFF.out] at HAT
              have HL7 : Hid (Calls _ _ _ _ _) := hb7.load HSS.out hKz HVV.out
              obtain ⟨y, hy⟩ : ∃ y, loadS (doCrash (saveP { p with arm := arm.toNat } si st sd).2 keep) = y := ⟨_, rfl⟩
              rw [hy] at HAT HL7
              have HA2 : Hid ((y = ((wi, wt, wm), wk, we) ∧ (f = 0 → si < (wi : Int)) ∧ wk = 0) ∨ (f = 0 ∧ y = ((si.toNat, st.toNat, sd), 0, 0) ∧ (wi : Int) ≤ si ∧ ((si.toNat : Nat) : Int) = si ∧ ((st.toNat : Nat) : Int) = st)) := HAT
              clear hb7 HCR hy HAT HBX5 HBX6 HXP
              obtain ⟨⟨ni, nt, nm⟩, nk, ne⟩ := y
              go_wp2_with fail
              refine HL7.out.mono ?_
              rintro r w8 ⟨u8, rfl, hO8, hB8⟩
              obtain ⟨a8, c8, hsh, -, -⟩ := hO8.shape
              subst hsh
              simp only at hO8 ⊢
              obtain ⟨V8, hV8⟩ : ∃ V8, w8.alloc (.cells #[.int .i64 (ni : Int), .int .i64 (nt : Int), .slice a8 nm.length c8] 34) = V8 := ⟨_, rfl⟩
              have HV8 : Hid (w8.alloc (.cells #[.int .i64 (ni : Int), .int .i64 (nt : Int), .slice a8 nm.length c8] 34) = V8) := hV8
              have hB8V : Below w8.heap.size w8 V8 := by rw [← hV8]; exact (Below.refl _ w8).alloc (Nat.le_refl _) _
              have hB78 : Below w7.heap.size w7 V8 := hB8.trans (hB8V.mono hB8.size)
              have hBX8 : Bx K S wr V0 V8 d (doCrash (saveP { p with arm := arm.toNat } si st sd).2 keep) := HBX7.out.below hzV hB78
              have hbel8 := hBX8.bel HSS.out hKz
              have hx8 : V8.heap[w8.heap.size]? = some (.cells #[.int .i64 (ni : Int), .int .i64 (nt : Int), .slice a8 nm.length c8] 34 (0, 0)) := by rw [← hV8]; exact heap_alloc_new w8 _
              obtain ⟨hs8, hss8⟩ := HSK.out V8 hbel8
              have hw8 := hBX8.cell (i := w4.heap.size) hz4.1 hz4.2 HX4.out
              have hwO := (hBX8.ow HOV.out).sl (Nat.le_refl _)
              have hnO := (hO8.below hB8V (Nat.le_refl _)).sl (Nat.le_refl _)
              have hsO : Sl V8.heap.size V8 (.slice sa sd.length sc) sd := hss8.mono (by have := hbel8.size; omega)
              have HFB : Hid (∀ V, Below V8.heap.size V8 V → Below w.heap.size w V) := fun V hV => (HBk.out.trans (hbel8.mono (by omega))).trans (hV.mono (by have := hbel8.size; omega))
              have HSM1 : Hid (∀ V, Below V8.heap.size V8 V → Calls Tryz.prog 14 #[.agg #[.int .i64 (wi : Int), .int .i64 (wt : Int), .slice a4 wm.length c4], .agg #[.int .i64 (ni : Int), .int .i64 (nt : Int), .slice a8 nm.length c8]] V fun e w' => e = .returned (.bool (decide (wm = nm) && ((wi : Int) == (ni : Int)) && ((wt : Int) == (nt : Int)))) ∧ Below V8.heap.size V8 w') := fun V hV =>
                (Cd.sameSnap_any _ _ _ _ wm _ _ _ _ nm V8.heap.size V (show Cd.Sl _ _ _ _ from hwO.below hV) (show Cd.Sl _ _ _ _ from hnO.below hV) hV.size).mono fun e w' hh => ⟨hh.1, hV.trans (hh.2.mono hV.size)⟩
              have HSM2 : Hid (∀ V, Below V8.heap.size V8 V → Calls Tryz.prog 14 #[.agg #[.int .i64 (ni : Int), .int .i64 (nt : Int), .slice a8 nm.length c8], .agg #[.int .i64 si, .int .i64 st, .slice sa sd.length sc]] V fun e w' => e = .returned (.bool (decide (nm = sd) && ((ni : Int) == si) && ((nt : Int) == st))) ∧ Below V8.heap.size V8 w') := fun V hV =>
                (Cd.sameSnap_any _ _ _ _ nm _ _ _ _ sd V8.heap.size V (show Cd.Sl _ _ _ _ from hnO.below hV) (show Cd.Sl _ _ _ _ from hsO.below hV) hV.size).mono fun e w' hh => ⟨hh.1, hV.trans (hh.2.mono hV.size)⟩
              have HCE : Hid (∀ V, Below V8.heap.size V8 V → (V.cell? ⟨w.heap.size, 0, none⟩ = some (.int .i64 si) ∧ V.cell? ⟨w.heap.size, 1, none⟩ = some (.int .i64 st) ∧ V.cell? ⟨w.heap.size, 2, none⟩ = some (.slice sa sd.length sc)) ∧ (V.cell? ⟨w4.heap.size, 0, none⟩ = some (.int .i64 (wi : Int)) ∧ V.cell? ⟨w4.heap.size, 1, none⟩ = some (.int .i64 (wt : Int)) ∧ V.cell? ⟨w4.heap.size, 2, none⟩ = some (.slice a4 wm.length c4)) ∧ (V.cell? ⟨w8.heap.size, 0, none⟩ = some (.int .i64 (ni : Int)) ∧ V.cell? ⟨w8.heap.size, 1, none⟩ = some (.int .i64 (nt : Int)) ∧ V.cell? ⟨w8.heap.size, 2, none⟩ = some (.slice a8 nm.length c8)) ∧ (w.heap.size < V.heap.size ∧ w4.heap.size < V.heap.size ∧ w8.heap.size < V.heap.size)) := fun V hV =>
                ⟨(Cd.cells3 ((hV.block _ (Array.getElem?_eq_some_iff.1 hs8).1).trans hs8)).1, (Cd.cells3 ((hV.block _ (Array.getElem?_eq_some_iff.1 hw8).1).trans hw8)).1, (Cd.cells3 ((hV.block _ (Array.getElem?_eq_some_iff.1 hx8).1).trans hx8)).1, Nat.lt_of_lt_of_le (Array.getElem?_eq_some_iff.1 hs8).1 hV.size, Nat.lt_of_lt_of_le (Array.getElem?_eq_some_iff.1 hw8).1 hV.size, Nat.lt_of_lt_of_le (Array.getElem?_eq_some_iff.1 hx8).1 hV.size⟩
              have HR8 : Hid (Below V8.heap.size V8 V8) := Below.refl _ _
              clear hO8 hB8 hV8 hB8V hB78 hBX8 hbel8 hx8 hs8 hss8 hw8 hwO hnO hsO HL7 HBX7 HBX HSS HVV HSK HX4 HOV HDk HWk HV0 x0 x1 x2 HX1 HB1 HBK HBk HV HS HO
              go_wp2_with fail
              rw [HV8.out]
              obtain ⟨⟨s0, s1, s2⟩, ⟨p0, p1, p2⟩, ⟨q0, q1, q2⟩, l0, l1, l2⟩ := HCE.out V8 HR8.out
              rcases HA2.out with ⟨e1, e2, e3⟩ | ⟨e1, e2, e3, e4, e5⟩
              · simp only [Prod.mk.injEq] at e1
                obtain ⟨⟨h1, h2, h3⟩, h4, h5⟩ := e1
                subst h1 h2 h3 h4 h5 e3
                clear HA2
                go_wp2_with (first | (go_at_call 18; refine (num_any _ _).mono ?_; rintro e wz ⟨rfl, hwz⟩; subst wz) | fail)
                refine (HSM1.out V8 HR8.out).mono ?_
                rintro e w9 ⟨rfl, hB9⟩
                first | rw [same_self] | rw [same_self2]
                clear s0 s1 s2 p0 p1 p2 q0 q1 q2 l0 l1 l2
                obtain ⟨⟨s0, s1, s2⟩, ⟨p0, p1, p2⟩, ⟨q0, q1, q2⟩, l0, l1, l2⟩ := HCE.out w9 hB9
                clear HSM1
                by_cases hwe : ne = 0
                · subst hwe
                  go_wp2_with (first | (go_at_call 18; refine (num_any _ _).mono ?_; rintro e wz ⟨rfl, hwz⟩; subst wz) | fail)
                  refine (HSM2.out w9 hB9).mono ?_
                  rintro e w10 ⟨rfl, hB10⟩
                  clear s0 s1 s2 p0 p1 p2 q0 q1 q2 l0 l1 l2
                  obtain ⟨⟨s0, s1, s2⟩, ⟨p0, p1, p2⟩, ⟨q0, q1, q2⟩, l0, l1, l2⟩ := HCE.out w10 hB10
                  clear HSM2
                  generalize (decide (nm = sd) && ((ni : Int) == si) && ((nt : Int) == st)) = u
                  cases u
                  · by_cases hf : f = 0
                    · have hlt := e2 hf
                      have hge : ¬ (ni : Int) ≤ si := by omega
                      subst hf
                      clear e2
                      go_wp2_with (first | (go_at_call 18; refine (num_any _ _).mono ?_; rintro e wz ⟨rfl, hwz⟩; subst wz) | fail)
                      go_ret
                      exact ⟨by first | rfl | simp, HFB.out _ hB10⟩
                    · have hf' : ((f : Int) == 0) = false := by simp; omega
                      clear e2
                      go_wp2_with (first | (go_at_call 18; refine (num_any _ _).mono ?_; rintro e wz ⟨rfl, hwz⟩; subst wz) | fail)
                      go_ret
                      exact ⟨by first | rfl | simp, HFB.out _ hB10⟩
                  · by_cases hf : f = 0
                    · have hlt := e2 hf
                      have hge : ¬ (ni : Int) ≤ si := by omega
                      subst hf
                      clear e2
                      go_wp2_with (first | (go_at_call 18; refine (num_any _ _).mono ?_; rintro e wz ⟨rfl, hwz⟩; subst wz) | fail)
                      go_ret
                      exact ⟨by first | rfl | simp, HFB.out _ hB10⟩
                    · have hf' : ((f : Int) == 0) = false := by simp; omega
                      clear e2
                      go_wp2_with (first | (go_at_call 18; refine (num_any _ _).mono ?_; rintro e wz ⟨rfl, hwz⟩; subst wz) | fail)
                      go_ret
                      exact ⟨by first | rfl | simp, HFB.out _ hB10⟩
                · have hwe' : ((ne : Int) == 0) = false := by simp; omega
                  by_cases hf : f = 0
                  · have hlt := e2 hf
                    have hge : ¬ (ni : Int) ≤ si := by omega
                    subst hf
                    clear e2
                    go_wp2_with (first | (go_at_call 18; refine (num_any _ _).mono ?_; rintro e wz ⟨rfl, hwz⟩; subst wz) | fail)
                    go_ret
                    exact ⟨by first | rfl | simp, HFB.out _ hB9⟩
                  · have hf' : ((f : Int) == 0) = false := by simp; omega
                    clear e2
                    go_wp2_with (first | (go_at_call 18; refine (num_any _ _).mono ?_; rintro e wz ⟨rfl, hwz⟩; subst wz) | fail)
                    go_ret
                    exact ⟨by first | rfl | simp, HFB.out _ hB9⟩
              · simp only [Prod.mk.injEq] at e2
                obtain ⟨⟨h1, h2, h3⟩, h4, h5⟩ := e2
                have hsi : si = (ni : Int) := by omega
                have hst : st = (nt : Int) := by omega
                clear h1 h2 e4 e5 HA2
                subst hsi hst h4 h5 e1
                subst h3
                by_cases hwe : we = 0
                · subst hwe
                  go_wp2_with (first | (go_at_call 18; refine (num_any _ _).mono ?_; rintro e wz ⟨rfl, hwz⟩; subst wz) | fail)
                  refine (HSM1.out V8 HR8.out).mono ?_
                  rintro e w9 ⟨rfl, hB9⟩
                  clear s0 s1 s2 p0 p1 p2 q0 q1 q2 l0 l1 l2
                  obtain ⟨⟨s0, s1, s2⟩, ⟨p0, p1, p2⟩, ⟨q0, q1, q2⟩, l0, l1, l2⟩ := HCE.out w9 hB9
                  clear HSM1
                  generalize (decide (wm = nm) && ((wi : Int) == (ni : Int)) && ((wt : Int) == (nt : Int))) = u
                  go_wp2_with (first | (go_at_call 18; refine (num_any _ _).mono ?_; rintro e wz ⟨rfl, hwz⟩; subst wz) | fail)
                  refine (HSM2.out w9 hB9).mono ?_
                  rintro e w10 ⟨rfl, hB10⟩
                  first | rw [same_self] | rw [same_self2]
                  clear s0 s1 s2 p0 p1 p2 q0 q1 q2 l0 l1 l2
                  obtain ⟨⟨s0, s1, s2⟩, ⟨p0, p1, p2⟩, ⟨q0, q1, q2⟩, l0, l1, l2⟩ := HCE.out w10 hB10
                  clear HSM2
                  cases u
                  · skip
                    go_wp2_with (first | (go_at_call 18; refine (num_any _ _).mono ?_; rintro e wz ⟨rfl, hwz⟩; subst wz) | fail)
                    go_ret
                    exact ⟨by first | rfl | simp, HFB.out _ hB10⟩
                  · skip
                    go_wp2_with (first | (go_at_call 18; refine (num_any _ _).mono ?_; rintro e wz ⟨rfl, hwz⟩; subst wz) | fail)
                    go_ret
                    exact ⟨by first | rfl | simp, HFB.out _ hB10⟩
                · have hwe' : ((we : Int) == 0) = false := by simp; omega
                  go_wp2_with (first | (go_at_call 18; refine (num_any _ _).mono ?_; rintro e wz ⟨rfl, hwz⟩; subst wz) | fail)
                  refine (HSM2.out V8 HR8.out).mono ?_
                  rintro e w10 ⟨rfl, hB10⟩
                  first | rw [same_self] | rw [same_self2]
                  clear s0 s1 s2 p0 p1 p2 q0 q1 q2 l0 l1 l2
                  obtain ⟨⟨s0, s1, s2⟩, ⟨p0, p1, p2⟩, ⟨q0, q1, q2⟩, l0, l1, l2⟩ := HCE.out w10 hB10
                  clear HSM2 HSM1
                  go_wp2_with (first | (go_at_call 18; refine (num_any _ _).mono ?_; rintro e wz ⟨rfl, hwz⟩; subst wz) | fail)
                  go_ret
                  exact ⟨by first | rfl | simp, HFB.out _ hB10⟩
end Go.Proofs.YtadajbdmlmickaaGreatDoor
