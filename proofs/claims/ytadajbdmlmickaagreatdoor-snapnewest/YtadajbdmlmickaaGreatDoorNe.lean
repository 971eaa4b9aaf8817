/-
  SnapNewest: the law.
-/
import Derived.Test.YtadajbdmlmickaaGreatDoorRs
import Derived.Test.YtadajbdmlmickaaGreatDoorSp
import Derived.Test.YtadajbdmlmickaaGreatDoorSi
namespace Go.Proofs.YtadajbdmlmickaaGreatDoor
open Go.RowKit
set_option linter.unusedVariables false

theorem tmod5 (x : Int) : -5 < x.tmod 5 ∧ x.tmod 5 < 5 := by
  rcases Int.le_total 0 x with h | h
  · rw [Int.tmod_eq_emod_of_nonneg h]; omega
  · have : x.tmod 5 = -((-x).tmod 5) := by rw [Int.neg_tmod]; omega
    rw [this, Int.tmod_eq_emod_of_nonneg (by omega)]; omega
theorem keep5 (kp : Int) : ∃ kn : Nat, wrap64 ((wrap64 (kp.tmod 5 + 5)).tmod 5 + 1) = (kn : Int) ∧ 1 ≤ kn ∧ kn ≤ 5 := by
  have h1 := tmod5 kp
  have e1 : wrap64 (kp.tmod 5 + 5) = kp.tmod 5 + 5 := by unfold wrap64; omega
  rw [e1, Int.tmod_eq_emod_of_nonneg (by omega)]
  have e2 : wrap64 ((kp.tmod 5 + 5) % 5 + 1) = (kp.tmod 5 + 5) % 5 + 1 := by unfold wrap64; omega
  rw [e2]
  exact ⟨((kp.tmod 5 + 5) % 5 + 1).toNat, by omega, by omega, by omega⟩
theorem ne_same (m : List UInt8) (i t : Int) : (decide (m = m) && (i == i) && (t == t)) = true := by simp
theorem ne_same2 (i t : Int) : (decide True && (i == i) && (t == t)) = true := by simp
section
variable {N : Nat} {S : Nat → Prop} {w V0 V : World} {d : Nat} {q : PD}
theorem Bx.keepk (h : Bx N S w V0 V d q) (hS : ∀ i, S i → i < w.heap.size ∧ N ≤ i) (hN : N ≤ w.heap.size) (hw : w.heap.size ≤ V0.heap.size) (hv : ∀ V, Below N w V → Vars V) (n : Nat) (hn0 : 1 ≤ n) (hn : n ≤ 4611686018427387904) :
    Calls Tryz.prog 28 #[.pointer (some ⟨d, 0, none⟩), .int .i64 (n : Int)] V fun r V' => r = .returned (.tuple #[.int .i64 ((keepN (remL q (spareL q n)).1 (spareL q n).length : Nat) : Int), .int .i64 ((remL q (spareL q n)).1 : Int)]) ∧ Bx N S w V0 V' d (remL q (spareL q n)).2 := by
  have hb := h.bel hS hN
  obtain ⟨S', hD, hz, hn'⟩ := h.next hS hN hw
  refine (keep_any hD hz (fun V' hV' => hv V' (hb.trans (hV'.mono hz))) n hn0 hn).mono ?_
  rintro r V' ⟨rfl, hT⟩
  exact ⟨rfl, hn' _ _ hT⟩
theorem Bx.list (h : Bx N S w V0 V d q) (hS : ∀ i, S i → i < w.heap.size ∧ N ≤ i) (hN : N ≤ w.heap.size) (hv : ∀ V, Below N w V → Vars V) : Calls Tryz.prog 16 #[.pointer (some ⟨d, 0, none⟩)] V fun r w' => ∃ a c, r = .returned (.slice a (listP q).length c) ∧ In.Ow V.heap.size w' (.slice a (listP q).length c) (ixI (listP q)) ∧ Below V.heap.size V w' := by
  have hb := h.bel hS hN
  obtain ⟨⟨S', hD, -⟩, -, -, -⟩ := h
  exact list_s hD (fun V' hV' => hv V' (hb.trans (hV'.mono (by have := hb.size; omega))))
end
theorem cut_x {N : Nat} {S : Nat → Prop} {w : World} {d : Nat} {p : PD} (h : Dsk N w S d p) (hN : N ≤ w.heap.size) (nm : List UInt8) (hn : nm.length ≤ maxLen) (n : Int) : Calls Tryz.prog 27 #[.pointer (some ⟨d, 0, none⟩), .string ⟨nm.toArray⟩, .int .i64 n] w fun r w' => r = .returned (.int .i64 ((doCut p nm n).1 : Int)) ∧ Then N S w w' d (doCut p nm n).2 :=
  op_x (X := fun p => doCut p nm n) h hN (fun k hk hS => cut_any hk nm hn n)

set_option maxRecDepth 100000 in
set_option maxHeartbeats 16000000 in
theorem newest_walk (a : Option Addr) (c : Nat) (l : List Snp) (w : World) (h : SnpsAt w.heap.size w a l) (hl : l.length ≤ 9223372036854775807) (sv : Value) (sl : List Int) (hs : In.Sl w.heap.size w sv sl) (hsi : ∀ x ∈ sl, -9223372036854775808 ≤ x ∧ x ≤ 9223372036854775807) (kp : Int) (hkp : -9223372036854775808 ≤ kp ∧ kp ≤ 9223372036854775807) (hv : ∀ V, Below w.heap.size w V → Vars V) :
    Calls Tryz.prog 6 #[.slice a l.length c, sv, .int .i64 kp] w fun e w' => e = .returned (.bool true) ∧ Below w.heap.size w w' := by
  obtain ⟨sa, sc, rfl, hsc, hsm, -⟩ := id hs
  unfold maxLen at hsm
  have hsl : sl.length ≤ 9223372036854775807 := by omega
  have HO : Hid (SnpsAt w.heap.size w a l) := h
  have HS : Hid (In.Sl w.heap.size w (.slice sa sl.length sc) sl) := hs
  have HSI : Hid (∀ x ∈ sl, -9223372036854775808 ≤ x ∧ x ≤ 9223372036854775807) := hsi
  have HV : Hid (∀ V, Below w.heap.size w V → Vars V) := hv
  have HF : Hid (Calls _ _ _ _ _) := first_s w hv
  clear h hs hv hsi hsc hsm
  go_enter Tryz.func6, Tryz.ntmps6
  go_wp2_with fail
  refine HF.out.mono ?_
  rintro r w1 ⟨rfl, hB1⟩
  have HB1 : Hid (Below w.heap.size w w1) := hB1
  have hz1 : w.heap.size ≤ w1.heap.size := hB1.size
  clear hB1 HF
  go_wp2_with fail
  go_loopw [8, 9] (fun nv kv wr => ∃ (n : Int) (k : Nat), nv = .int .i64 n ∧ kv = .int .i64 (k : Int) ∧ k ≤ l.length ∧ k ≤ 20 ∧ 0 ≤ n ∧ n ≤ 1000000 + 20000 * k ∧ wr = w1) (fun _ kv _ => l.length - (intOf kv).toNat)
  case atStart => exact ⟨_, 0, rfl, rfl, Nat.zero_le _, by omega, by omega, by omega, rfl⟩
  case round =>
    obtain ⟨n, k, rfl, rfl, hk, hk20, hn0, hn1, hwr⟩ := hrel
    have hwr' := hwr.symm
    clear hwr
    subst hwr'
    by_cases hlt : k < l.length
    · have k0 : (0 : Int) ≤ (k : Int) := by omega
      have k1 : (k : Int) < (l.length : Int) := by omega
      by_cases h20 : k < 20
      · have h20' : (k : Int) < 20 := by omega
        obtain ⟨b, off, ha, hb, he⟩ := HO.out.at hlt
        subst ha
        have he1 := he.below hb HB1.out
        generalize l.getD k nilSnp = y at *
        obtain ⟨yi, yt, ya, yc, yd⟩ := y
        obtain ⟨⟨c0, c1, c2⟩, ysl⟩ := he1
        simp only at c0 c1 c2 ysl
        have hyl : yd.length ≤ 9223372036854775807 := by obtain ⟨a', c', e, h1, h2, -⟩ := ysl; unfold maxLen at h2; injection e with e1 e2 e3; omega
        have hbw : b < w1.heap.size := by omega
        clear he ysl
        by_cases hm : 20000 < yd.length
        · have hm' : (20000 : Int) < (yd.length : Int) := by omega
          go_wp2
          exact ⟨⟨_, k + 1, rfl, by go_num, by omega, by omega, by omega, by omega, by first | rfl | trivial⟩, by simp [intOf]; omega⟩
        · have hm' : ¬ (20000 : Int) < (yd.length : Int) := by omega
          go_wp2
          exact ⟨⟨_, k + 1, rfl, by go_num, by omega, by omega, by omega, by omega, by first | rfl | trivial⟩, by simp [intOf]; omega⟩
      · have h20' : ¬ (k : Int) < 20 := by omega
        have hl20 : (20 : Int) < (l.length : Int) := by omega
        go_wp2
        go_ret
        exact ⟨by simp, HB1.out⟩
    · have k1 : ¬ (k : Int) < (l.length : Int) := by omega
      have hl20 : ¬ (20 : Int) < (l.length : Int) := by omega
      by_cases hs20 : 20 < sl.length
      · have hs20' : (20 : Int) < (sl.length : Int) := by omega
        go_wp2
        go_ret
        exact ⟨by simp, HB1.out⟩
      · have hs20' : ¬ (20 : Int) < (sl.length : Int) := by omega
        by_cases hn2 : (20000 : Int) < n
        · go_wp2
          go_ret
          exact ⟨by simp, HB1.out⟩
        · have hl20' : l.length ≤ 20 := by omega
          go_wp2_with fail
          clear hlt k1 hk hk20 hn1
          refine (new_dsk w1.heap.size w1 (Nat.le_refl _)).mono ?_
          rintro r w2 ⟨rfl, hD2, hB2⟩
          obtain ⟨d, hd⟩ : ∃ d, w1.heap.size + 1 = d := ⟨_, rfl⟩
          rw [hd] at hD2 ⊢
          have HD2 : Hid (∃ S p, Dsk w1.heap.size w2 S d p ∧ Cln p 0) := ⟨_, _, hD2, Cln.nil _⟩
          have HB2 : Hid (Below w1.heap.size w1 w2) := hB2
          clear hd hD2 hB2 hn0 hn2
          obtain ⟨K, hK⟩ : ∃ K, w1.heap.size = K := ⟨_, rfl⟩
          have HK : Hid (w1.heap.size = K) := hK
          rw [hK] at HD2 HB2
          clear hK
          go_wp2_with fail
          go_loopw [11] (fun kv wx => ∃ k : Nat, kv = .int .i64 (k : Int) ∧ k ≤ l.length ∧ Below K w1 wx ∧ ∃ S p, Dsk K wx S d p ∧ Cln p k) (fun kv _ => l.length - (intOf kv).toNat)
          case atStart => exact ⟨0, rfl, Nat.zero_le _, HB2.out, HD2.out⟩
          case round =>
            obtain ⟨k, rfl, hk, hBk, S, p, hDk, hWk⟩ := hrel
            have hwK : w.heap.size ≤ K := by have := HK.out; omega
            have hKz : K ≤ wr.heap.size := by have := hBk.size; have := HK.out; omega
            have HBk : Hid (Below w.heap.size w wr) := HB1.out.trans (hBk.mono hwK)
            have HBK : Hid (Below K w1 wr) := hBk
            have HDk : Hid (Dsk K wr S d p) := hDk
            have HWk : Hid (Cln p k) := hWk
            clear hBk hDk hWk HD2 HB2
            by_cases hlt : k < l.length
            · have k0 : (0 : Int) ≤ (k : Int) := by omega
              have k1 : (k : Int) < (l.length : Int) := by omega
              obtain ⟨b, off, ha, hb, he⟩ := HO.out.at hlt
              subst ha
              have he1 := he.below hb HBk.out
              generalize l.getD k nilSnp = y at *
              obtain ⟨yi, yt, ya, yc, yd⟩ := y
              obtain ⟨⟨c0, c1, c2⟩, ysl⟩ := he1
              simp only at c0 c1 c2 ysl
              have hbw : b < wr.heap.size := by omega
              have HSV : Hid (Calls _ _ _ _ _) := save_any HDk.out hKz (fun V hV => HV.out V (HBk.out.trans (hV.mono hwK))) yi yt yd ya yc w.heap.size ysl (by omega)
              clear he ysl
              go_wp2_with fail
              refine HSV.out.mono ?_
              rintro r w3 ⟨rfl, hT3⟩
              have HNX : Hid (Below K w1 w3 ∧ ∃ S p, Dsk K w3 S d p ∧ Cln p (k + 1)) := ⟨HBK.out.trans hT3.bel, _, _, hT3.dsk, HWk.out.save (by omega) yi yt yd⟩
              clear hT3 HSV c0 c1 c2
              go_wp2
              exact ⟨⟨k + 1, by go_num, by omega, HNX.out.1, HNX.out.2⟩, by simp [intOf]; omega⟩
            · have k1 : ¬ (k : Int) < (l.length : Int) := by omega
              have HNX : Hid (∃ S p, Dsk K wr S d p ∧ Cln p 20) := ⟨S, p, HDk.out, HWk.out.mono (by omega)⟩
              clear HDk HWk
              go_wp2_with fail
              go_loopw [12] (fun kv wx => ∃ k : Nat, kv = .int .i64 (k : Int) ∧ k ≤ sl.length ∧ Below K w1 wx ∧ ∃ S p, Dsk K wx S d p ∧ Cln p 20) (fun kv _ => sl.length - (intOf kv).toNat)
              case atStart => exact ⟨0, rfl, Nat.zero_le _, HBK.out, HNX.out⟩
              case round =>
                clear HNX HBK HBk hKz
                obtain ⟨k, rfl, hk, hBk, S, p, hDk, hWk⟩ := hrel
                have hKz : K ≤ wr.heap.size := by have := hBk.size; have := HK.out; omega
                have HBk : Hid (Below w.heap.size w wr) := HB1.out.trans (hBk.mono hwK)
                have HBK : Hid (Below K w1 wr) := hBk
                have HDk : Hid (Dsk K wr S d p) := hDk
                have HWk : Hid (Cln p 20) := hWk
                clear hBk hDk hWk
                by_cases hlt : k < sl.length
                · have k0 : (0 : Int) ≤ (k : Int) := by omega
                  have k1 : (k : Int) < (sl.length : Int) := by omega
                  obtain ⟨a', c', e, -, -, hor⟩ := HS.out.below HBk.out
                  injection e with e1 e2 e3
                  subst e1 e3
                  obtain ⟨b, off, ha, hb, hc⟩ := hor.resolve_left (fun e => by rw [e] at hlt; simp at hlt)
                  subst ha
                  have hck := hc k hlt
                  have hmem : sl[k]?.getD 0 ∈ sl := by rw [List.getElem?_eq_getElem hlt]; exact List.getElem_mem _
                  have hyb := HSI.out _ hmem
                  have hbw : b < wr.heap.size := by omega
                  generalize sl[k]?.getD 0 = y at *
                  clear hc hor hmem e2
                  have HNM : Hid (Calls _ _ _ _ _) := name_any y hyb wr (HV.out _ HBk.out)
                  go_wp2_with fail
                  refine HNM.out.mono ?_
                  rintro r w3 ⟨rfl, hB3⟩
                  have HB3 : Hid (Below K w1 w3) := HBK.out.trans (hB3.mono hKz)
                  have HD3 : Hid (Dsk K w3 S d p) := HDk.out.below hB3
                  have hz3 : K ≤ w3.heap.size := Nat.le_trans hKz hB3.size
                  clear HNM hB3 HDk HBk HBK hck hbw
                  by_cases hr : 1 ≤ y ∧ y ≤ 4611686018427387904
                  · rw [if_pos hr]
                    have HCT : Hid (Calls _ _ _ _ _) := cut_x HD3.out hz3 (nmL y.toNat) (by rw [nmL_len]; unfold maxLen; omega) 3
                    go_wp2_with (first | (go_at_call 18; refine (num_any _ _).mono ?_; rintro e wz ⟨rfl, hwz⟩; subst wz) | fail)
                    refine HCT.out.mono ?_
                    rintro r w4 ⟨rfl, hT4⟩
                    have HNX : Hid (Below K w1 w4 ∧ ∃ S p, Dsk K w4 S d p ∧ Cln p 20) := ⟨HB3.out.trans hT4.bel, _, _, hT4.dsk, HWk.out.cut _ _⟩
                    clear hT4 HCT
                    go_wp2
                    exact ⟨⟨k + 1, by go_num, by omega, HNX.out.1, HNX.out.2⟩, by simp [intOf]; omega⟩
                  · rw [if_neg hr]
                    go_wp2_with (first | (go_at_call 18; refine (num_any _ _).mono ?_; rintro e wz ⟨rfl, hwz⟩; subst wz) | fail)
                    exact ⟨⟨k + 1, by go_num, by omega, HB3.out, _, _, HD3.out, HWk.out⟩, by simp [intOf]; omega⟩
                · have k1 : ¬ (k : Int) < (sl.length : Int) := by omega
                  have HSS : Hid (∀ i, S i → i < wr.heap.size ∧ K ≤ i) := fun i hi => ⟨HDk.out.inn i hi, HDk.out.from i hi⟩
                  have HVV : Hid (∀ V, Below K wr V → Vars V) := fun V hV => HV.out V (HBk.out.trans (hV.mono hwK))
                  have HFB : Hid (∀ V, Below K wr V → Below w.heap.size w V) := fun V hV => HBk.out.trans (hV.mono hwK)
                  have HLS : Hid (Calls _ _ _ _ _) := list_s HDk.out (fun V hV => HVV.out V (hV.mono hKz))
                  have HRI : Hid ((listP p).Pairwise (· < ·)) := list_rise HDk.out.rise
                  have hL256 : (listP p).length ≤ 256 := by have := pick_len (p.fs.map PF.nm); rw [← pick_list] at this; have := HDk.out.few; simp at *; omega
                  have HMX : Hid (∀ x ∈ listP p, x ≤ 4611686018427387904) := fun x hx => (list_mem hx).2.1
                  obtain ⟨li, hli⟩ : ∃ li, listP p = li := ⟨_, rfl⟩
                  have HLI : Hid (listP p = li) := hli
                  rw [hli] at HLS HRI hL256 HMX
                  clear hli HBK HO HS HSI HV
                  go_wp2_with fail
                  refine HLS.out.mono ?_
                  rintro r w4 ⟨a4, c4, rfl, hO4, hB4⟩
                  have HO4 : Hid (In.Ow wr.heap.size w4 (.slice a4 li.length c4) (ixI li)) := hO4
                  have HB4 : Hid (Below wr.heap.size wr w4) := hB4
                  clear hO4 hB4 HLS k1 hlt hk hl hsl
                  go_wp2_with fail
                  go_loopw [16] (fun kv wx => ∃ k n : Nat, kv = .int .i64 (k : Int) ∧ 1 ≤ k ∧ k ≤ li.length + 1 ∧ wx = w4.drewN n) (fun kv _ => li.length + 1 - (intOf kv).toNat)
                  case atStart => exact ⟨1, 0, rfl, Nat.le_refl _, by omega, rfl⟩
                  case round =>
                    obtain ⟨k, n, rfl, hk1, hk2, rfl⟩ := hrel
                    by_cases hlt : k < li.length
                    · have k0 : (0 : Int) ≤ (k : Int) := by omega
                      have k1 : (k : Int) < (li.length : Int) := by omega
                      obtain ⟨g, cs, z, ha, -, hc1, hc2, hgb, hce⟩ := ix_row HO4.out (by omega)
                      subst ha
                      obtain ⟨j, hj⟩ : ∃ j : Nat, (k : Int) - 1 = (j : Int) := ⟨k - 1, by omega⟩
                      have j0 : (0 : Int) ≤ (j : Int) := by omega
                      have j1 : (j : Int) < (li.length : Int) := by omega
                      have c1 := hce w4 rfl k hlt
                      have c2 := hce w4 rfl j (by omega)
                      have hgl : g < w4.heap.size := (Array.getElem?_eq_some_iff.1 hgb).1
                      have hle : ¬ ((li.getD k 0 : Nat) : Int) ≤ ((li.getD j 0 : Nat) : Int) := by
                        have := List.pairwise_iff_getElem.1 HRI.out j k (by omega) hlt (by omega)
                        rw [List.getD_eq_getElem?_getD, List.getD_eq_getElem?_getD, List.getElem?_eq_getElem hlt, List.getElem?_eq_getElem (show j < li.length by omega)]
                        simp only [Option.getD_some]
                        omega
                      generalize li.getD k 0 = xk at *
                      generalize li.getD j 0 = xj at *
                      clear hce hgb
                      go_wp2
                      go_quiet (fail)
                      go_wp2
                      go_roundw
                      case rel => exact ⟨k + 1, _, by go_num, by omega, by omega, rfl⟩
                      case measure => simp [intOf]; omega
                    · have k1 : ¬ (k : Int) < (li.length : Int) := by omega
                      obtain ⟨w5, hw5⟩ : ∃ w5, w4.drewN n = w5 := ⟨_, rfl⟩
                      have HB5 : Hid (Below wr.heap.size wr w5) := by show Below _ _ _; rw [← hw5]; exact below_drewN HB4.out n
                      have HO5 : Hid (In.Ow wr.heap.size w5 (.slice a4 li.length c4) (ixI li)) := by show In.Ow _ _ _ _; rw [← hw5]; exact HO4.out.below (below_drewN (Below.refl _ _) n) (Nat.le_refl _)
                      rw [hw5]
                      clear hw5 HO4 HB4
                      have HLD : Hid (Calls _ _ _ _ _) := load_any (HDk.out.below HB5.out) (fun V hV => HVV.out V ((HB5.out.trans (hV.mono HB5.out.size)).mono hKz))
                      rcases load_cases p with hx | ⟨sx, ov, hov, hx, hs1, -, -⟩
                      · rw [hx] at HLD
                        clear hx
                        go_wp2_with fail
                        refine HLD.out.mono ?_
                        rintro r w6 ⟨u6, rfl, hO6, hB6⟩
                        obtain ⟨a6, c6, hsh, -, -⟩ := hO6.shape
                        subst hsh
                        simp only at hO6 ⊢
                        obtain ⟨V6, hV6⟩ : ∃ V6, w6.alloc (.cells #[.int .i64 ((0 : Nat) : Int), .int .i64 ((0 : Nat) : Int), .slice a6 ([] : List UInt8).length c6] 34) = V6 := ⟨_, rfl⟩
                        have HBV : Hid (∀ V, Below w6.heap.size w6 V → Below w.heap.size w V) := fun V hV => HFB.out V (((HB5.out.trans (hB6.mono HB5.out.size)).trans (hV.mono (by have := hB6.size; have := HB5.out.size; omega))).mono hKz)
                        have HR6 : Hid (∀ o, Below w6.heap.size w6 (w6.alloc o)) := fun o => (Below.refl _ w6).alloc (Nat.le_refl _) o
                        clear hO6 hB6 hV6 HLD k1 hk1 hk2 hlt
                        go_wp2_with (first | (go_at_call 18; refine (num_any _ _).mono ?_; rintro e wz ⟨rfl, hwz⟩; subst wz) | fail)
                        go_ret
                        exact ⟨by first | rfl | simp, HBV.out _ (HR6.out _)⟩
                      · have HXP : Hid (loadS p = (sx, ov, 0)) := hx
                        rw [hx] at HLD
                        rw [HLI.out] at hov hs1
                        clear hx
                        obtain ⟨wi, wt, wm⟩ := sx
                        simp only at hs1
                        go_wp2_with fail
                        refine HLD.out.mono ?_
                        rintro r w6 ⟨u6, rfl, hO6, hB6⟩
                        obtain ⟨a6, c6, hsh, -, -⟩ := hO6.shape
                        subst hsh
                        simp only at hO6 ⊢
                        obtain ⟨V0, hV0⟩ : ∃ V0, w6.alloc (.cells #[.int .i64 (wi : Int), .int .i64 (wt : Int), .slice a6 wm.length c6] 34) = V0 := ⟨_, rfl⟩
                        have HV0 : Hid (w6.alloc (.cells #[.int .i64 (wi : Int), .int .i64 (wt : Int), .slice a6 wm.length c6] 34) = V0) := hV0
                        have hB6V : Below w6.heap.size w6 V0 := by rw [← hV0]; exact (Below.refl _ w6).alloc (Nat.le_refl _) _
                        have hx6 : V0.heap[w6.heap.size]? = some (.cells #[.int .i64 (wi : Int), .int .i64 (wt : Int), .slice a6 wm.length c6] 34 (0, 0)) := by rw [← hV0]; exact heap_alloc_new w6 _
                        have h56 : wr.heap.size ≤ w5.heap.size := HB5.out.size
                        have hBV : Below wr.heap.size wr V0 := HB5.out.trans ((hB6.trans (hB6V.mono hB6.size)).mono h56)
                        have HX6 : Hid (V0.heap[w6.heap.size]? = some (.cells #[.int .i64 (wi : Int), .int .i64 (wt : Int), .slice a6 wm.length c6] 34 (0, 0))) := hx6
                        have hz6 : wr.heap.size ≤ w6.heap.size ∧ w6.heap.size < V0.heap.size := ⟨Nat.le_trans h56 hB6.size, (Array.getElem?_eq_some_iff.1 hx6).1⟩
                        have hzV : wr.heap.size ≤ V0.heap.size := hBV.size
                        have HOV : Hid (Ow wr.heap.size V0 (.slice a6 wm.length c6) wm) := (hO6.below hB6V (Nat.le_refl _)).base h56
                        have HOL : Hid (In.Ow wr.heap.size V0 (.slice a4 li.length c4) (ixI li)) := HO5.out.below (hB6.trans (hB6V.mono hB6.size)) (Nat.le_refl _)
                        have HBX : Hid (Bx K S wr V0 V0 d p) := Bx.start HDk.out hBV
                        obtain ⟨g, cs, z, ha, hg0, hc1, hc2, hgb, hce⟩ := ix_row HOL.out (by omega)
                        subst ha
                        unfold maxLen at hc2
                        have hgV : g < V0.heap.size := (Array.getElem?_eq_some_iff.1 hgb).1
                        obtain ⟨j, hj⟩ : ∃ j : Nat, (li.length : Int) - 1 - (ov : Int) = (j : Int) := ⟨li.length - 1 - ov, by omega⟩
                        have hjn : li.length - 1 - ov = j := by omega
                        rw [hjn] at hs1
                        have hcj := hce V0 rfl j (by omega)
                        rw [← hs1] at hcj
                        obtain ⟨⟨y0, y1, y2⟩, -⟩ := Cd.cells3 hx6
                        have hl6 : w6.heap.size < V0.heap.size := hz6.2
                        have o0 : ¬ (ov : Int) < 0 := by omega
                        have o1 : ¬ (ov : Int) ≥ (li.length : Int) := by omega
                        have o2 : ¬ (li.length : Int) ≤ (ov : Int) := by omega
                        have j0 : (0 : Int) ≤ (j : Int) := by omega
                        have o3 : ¬ li.length ≤ ov := by omega
                        have o4 : decide ((ov : Int) < 0) = false := by simp
                        have o5 : decide (li.length ≤ ov) = false := by simp; omega
                        have hw1 : IntKind.i64.wrap ((li.length : Int) - 1) = (li.length : Int) - 1 := by rw [IntKind.wrap_i64]; omega
                        have hw2 : IntKind.i64.wrap ((li.length : Int) - 1 - (ov : Int)) = (j : Int) := by rw [IntKind.wrap_i64]; omega
                        have j1 : (j : Int) < (li.length : Int) := by omega
                        clear hO6 hB6 hV0 hB6V hx6 hBV HLD HO5 HB5 hgb hjn hs1 k1 hk1 hk2 hlt
                        go_wp2_with (first | (go_at_call 18; refine (num_any _ _).mono ?_; rintro e wz ⟨rfl, hwz⟩; subst wz) | fail)
                        rw [HV0.out]
                        go_quiet (fail)
                        clear hw1 hw2 hj o3 o4 o5
                        go_wp2_with fail
                        obtain ⟨kn, hkn, hkn1, hkn5⟩ := keep5 kp
                        rw [hkn]
                        have HBX0 : Hid (Bx K S wr V0 (V0.drewN nq) d p) := HBX.out.below hzV (below_drewN (Below.refl _ _) nq)
                        have HKP : Hid (Calls _ _ _ _ _) := HBX0.out.keepk HSS.out hKz hzV HVV.out kn hkn1 (by omega)
                        have HGV : Hid (g < V0.heap.size) := hgV
                        have HCE : Hid (∀ V : World, V.heap[g]? = V0.heap[g]? → ∀ k, k < li.length → V.cell? ⟨g, k, none⟩ = some (.int .i64 ((li.getD k 0 : Nat) : Int))) := hce
                        clear hce
                        clear hkn hcj y0 y1 y2 hl6 o0 o1 o2 j0 j1 hgV hkp
                        refine HKP.out.mono ?_
                        rintro r w7 ⟨rfl, hb7⟩
                        have hkpl := keep_plain HDk.out.rise HWk.out hb7.rise
                        rw [HLI.out] at hkpl
                        obtain ⟨kl, ke, kli, klo⟩ := hkpl
                        rw [ke, kl]
                        obtain ⟨qn, hqn⟩ : ∃ qn, li.length - kn = qn := ⟨_, rfl⟩
                        rw [show keepN 0 (li.length - kn) = qn by unfold keepN; rw [if_pos rfl]; exact hqn]
                        rw [hqn] at kli
                        have HBX7 : Hid (Bx K S wr V0 w7 d (remL p (spareL p kn)).2) := hb7
                        have HKO : Hid (∀ s j, loadS p = (s, j, 0) → j < kn → loadS (remL p (spareL p kn)).2 = (s, j, 0)) := klo
                        have hq2 : qn ≤ li.length := by omega
                        have hmx : max ((li.length : Int) - (kn : Int)) 0 = (qn : Int) := by omega
                        have HL7 : Hid (Calls _ _ _ _ _) := hb7.list HSS.out hKz HVV.out
                        rw [kli] at HL7
                        generalize (remL p (spareL p kn)).2 = pq at *
                        clear HKP hb7 kl ke klo HBX0 HBX
                        go_wp2_with fail
                        refine HL7.out.mono ?_
                        rintro r w8 ⟨a8, c8, rfl, hO8, hB8⟩
                        have HO8 : Hid (In.Ow w7.heap.size w8 (.slice a8 (li.drop qn).length c8) (ixI (li.drop qn))) := hO8
                        have HB8 : Hid (Below w7.heap.size w7 w8) := hB8
                        clear hO8 hB8 HL7
                        have q0 : (0 : Int) ≤ (qn : Int) := by omega
                        have q1 : (qn : Int) ≤ (li.length : Int) := by omega
                        have q2 : (li.length : Int) ≤ (c4 : Int) := by omega
                        go_wp2_with fail
                        have hdl : (li.drop qn).length = li.length - qn := by simp
                        have hs1 : In.Sl w8.heap.size w8 (.slice a8 (li.length - qn) c8) (ixI (li.drop qn)) := by rw [← hdl]; exact HO8.out.sl (Nat.le_refl _)
                        have hg8 : w8.heap[g]? = V0.heap[g]? := (HB8.out.block g (Nat.lt_of_lt_of_le HGV.out HBX7.out.ks)).trans (HBX7.out.keep g hg0 HGV.out)
                        have hgl8 : g < w8.heap.size := Nat.lt_of_lt_of_le (Nat.lt_of_lt_of_le HGV.out HBX7.out.ks) HB8.out.size
                        have hs2 : In.Sl w8.heap.size w8 (.slice (some ⟨g, qn, none⟩) (li.length - qn) (c4 - qn)) (ixI (li.drop qn)) := by
                          have hil : (ixI (li.drop qn)).length = li.length - qn := by unfold ixI; rw [List.length_map, hdl]
                          refine ⟨some ⟨g, qn, none⟩, c4 - qn, by rw [hil], by omega, by unfold maxLen; omega, .inr ⟨g, qn, rfl, hgl8, fun i hi => ?_⟩⟩
                          rw [hil] at hi
                          rw [HCE.out w8 hg8 (qn + i) (by omega)]
                          congr 2
                          unfold ixI
                          rw [List.getElem?_map, List.getElem?_drop, List.getD_eq_getElem?_getD, List.getElem?_eq_getElem (by omega)]
                          rfl
                        have HSM : Hid (Calls _ _ _ _ _) := In.same_any w8.heap.size _ _ _ _ w8 hs1 hs2
                        clear hs1 hs2 hg8 hgl8 hdl
                        refine HSM.out.mono ?_
                        rintro r w9 ⟨rfl, nn, hw9⟩
                        have HBX9 : Hid (Bx K S wr V0 w9 d pq) := by
                          show Bx _ _ _ _ _ _ _
                          rw [hw9]
                          exact HBX7.out.below hzV (below_drewN HB8.out nn)
                        clear hw9 HSM HO8 HB8 HBX7 HCE
                        have HLD : Hid (Calls _ _ _ _ _) := HBX9.out.load HSS.out hKz HVV.out
                        have HFB9 : Hid (∀ V, Below w9.heap.size w9 V → Below w.heap.size w V) := fun V hV => HFB.out V ((HBX9.out.bel HSS.out hKz).trans (hV.mono (by have := (HBX9.out.bel HSS.out hKz).size; omega)))
                        have hz9 : K ≤ w9.heap.size := by have := (HBX9.out.bel HSS.out hKz).size; omega
                        rw [show decide (ixI (li.drop qn) = ixI (li.drop qn)) = true by simp]
                        by_cases hge : ov < kn
                        · have hge' : ¬ (kn : Int) ≤ (ov : Int) := by omega
                          have hge2 : ¬ kn ≤ ov := by omega
                          rw [HKO.out _ _ HXP.out hge] at HLD
                          clear hge HKO HXP
                          go_wp2_with fail
                          refine HLD.out.mono ?_
                          rintro r w10 ⟨u10, rfl, hO10, hB10⟩
                          obtain ⟨a10, c10, hsh, -, -⟩ := hO10.shape
                          subst hsh
                          simp only at hO10 ⊢
                          obtain ⟨V1, hV1⟩ : ∃ V1, w10.alloc (.cells #[.int .i64 (wi : Int), .int .i64 (wt : Int), .slice a10 wm.length c10] 34) = V1 := ⟨_, rfl⟩
                          have HV1 : Hid (w10.alloc (.cells #[.int .i64 (wi : Int), .int .i64 (wt : Int), .slice a10 wm.length c10] 34) = V1) := hV1
                          have hBV1 : Below w10.heap.size w10 V1 := by rw [← hV1]; exact (Below.refl _ w10).alloc (Nat.le_refl _) _
                          have hx1 : V1.heap[w10.heap.size]? = some (.cells #[.int .i64 (wi : Int), .int .i64 (wt : Int), .slice a10 wm.length c10] 34 (0, 0)) := by rw [← hV1]; exact heap_alloc_new w10 _
                          have hB91 : Below w9.heap.size w9 V1 := hB10.trans (hBV1.mono hB10.size)
                          have hBX1 : Bx K S wr V0 V1 d pq := HBX9.out.below hzV hB91
                          have hx6 := hBX1.cell (i := w6.heap.size) hz6.1 hz6.2 HX6.out
                          have hsl1 : Sl V1.heap.size V1 (.slice a6 wm.length c6) wm := (hBX1.ow HOV.out).sl (Nat.le_refl _)
                          have hsl2 : Sl V1.heap.size V1 (.slice a10 wm.length c10) wm := (hO10.below hBV1 (Nat.le_refl _)).sl (Nat.le_refl _)
                          have hx7 := (HBX9.out.below hzV hB10).cell (i := w6.heap.size) hz6.1 hz6.2 HX6.out
                          obtain ⟨⟨p0, p1, p2⟩, -⟩ := Cd.cells3 hx7
                          have l1 : w6.heap.size < w10.heap.size := (Array.getElem?_eq_some_iff.1 hx7).1
                          have HSM : Hid (Calls _ _ _ _ _) := Cd.sameSnap_any (wi : Int) (wt : Int) a6 c6 wm (wi : Int) (wt : Int) a10 c10 wm V1.heap.size V1 (show Cd.Sl _ _ _ _ from hsl1) (show Cd.Sl _ _ _ _ from hsl2) (Nat.le_refl _)
                          have HFV : Hid (∀ V, Below V1.heap.size V1 V → Below w.heap.size w V) := fun V hV => HFB9.out V (hB91.trans (hV.mono hB91.size))
                          clear hO10 hB10 hV1 hBV1 hx1 hB91 hBX1 hx6 hx7 hsl1 hsl2 HLD HBX9 HFB9
                          go_wp2_with fail
                          rw [HV1.out]
                          refine HSM.out.mono ?_
                          rintro r w11 ⟨rfl, hB11⟩
                          first | rw [ne_same] | rw [ne_same2]
                          have HB11 : Hid (Below V1.heap.size V1 w11) := hB11
                          clear hB11 HSM p0 p1 p2 l1
                          go_wp2_with (first | (go_at_call 18; refine (num_any _ _).mono ?_; rintro e wz ⟨rfl, hwz⟩; subst wz) | fail)
                          go_ret
                          exact ⟨by first | rfl | simp, HFV.out _ HB11.out⟩
                        · have hge' : (kn : Int) ≤ (ov : Int) := by omega
                          have hge2 : kn ≤ ov := by omega
                          obtain ⟨y, hy⟩ : ∃ y, loadS pq = y := ⟨_, rfl⟩
                          rw [hy] at HLD
                          obtain ⟨⟨ti, tt, tm⟩, tk, te⟩ := y
                          clear hge HKO HXP hy
                          go_wp2_with fail
                          refine HLD.out.mono ?_
                          rintro r w10 ⟨u10, rfl, hO10, hB10⟩
                          obtain ⟨a10, c10, hsh, -, -⟩ := hO10.shape
                          subst hsh
                          simp only at hO10 ⊢
                          have HFV : Hid (∀ o, Below w.heap.size w (w10.alloc o)) := fun o => HFB9.out _ (hB10.trans (((Below.refl _ w10).alloc (Nat.le_refl _) o).mono hB10.size))
                          clear hO10 hB10 HLD HBX9 HFB9
                          go_wp2_with (first | (go_at_call 18; refine (num_any _ _).mono ?_; rintro e wz ⟨rfl, hwz⟩; subst wz) | fail)
                          go_ret
                          exact ⟨by first | rfl | simp, HFV.out _⟩
end Go.Proofs.YtadajbdmlmickaaGreatDoor
