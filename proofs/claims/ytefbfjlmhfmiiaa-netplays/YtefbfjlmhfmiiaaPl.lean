/-
  NetPlays: the law.
-/
import Derived.Test.YtefbfjlmhfmiiaaPw
namespace Go.Proofs.Ytefbfjlmhfmiiaa
open Go.RowKit
set_option linter.unusedVariables false

set_option maxRecDepth 100000 in
set_option maxHeartbeats 8000000 in
theorem plays_walk (nodes : Int) (a : Option Addr) (c0 : Nat) (l : List Opn) (w : World) (h : OpsAt w.heap.size w a l) (hl : l.length ≤ 9223372036854775807) (hin : ∀ i, i < l.length → OpnIn (l.getD i nilOpn)) :
    Calls Try.prog 3 #[.int .i64 nodes, .slice a l.length c0] w fun e w' => e = .returned (.bool true) ∧ Below w.heap.size w w' := by
  have HO : Hid (OpsAt w.heap.size w a l) := h
  have HIN : Hid (∀ i, i < l.length → OpnIn (l.getD i nilOpn)) := hin
  clear h hin
  go_enter Try.func3, Try.ntmps3
  go_wp2_with fail
  refine (first_any w).mono ?_
  rintro e w1 ⟨rfl, hB1⟩
  have HB1 : Hid (Below w.heap.size w w1) := hB1
  have hz1 := hB1.size
  clear hB1
  go_wp2_with fail
  refine (few_any a c0 l w.heap.size w1 (HO.out.below HB1.out) hz1 hl).mono ?_
  rintro e w2 ⟨t, rfl, ht, hw⟩
  subst w2
  have HT : Hid (t = true → l.length ≤ 300) := ht
  clear ht
  go_wp2_with fail
  by_cases hn : 1 ≤ nodes ∧ nodes ≤ 7
  · refine (New_any nodes hn.1 hn.2 w1).mono ?_
    rintro e w3 ⟨b, S, L, rfl, hNt, hLA, hB3⟩
    have HRN : Hid (Calls _ _ _ _ _) := RNew_any nodes hn.1 hn.2 hNt.ok hLA w3
    have HN3 : Hid (Nt w1.heap.size S w3 b (newN nodes L)) := hNt
    have HB3 : Hid (Below w.heap.size w w3 ∧ w1.heap.size ≤ w3.heap.size) := ⟨HB1.out.trans (hB3.mono hz1), hB3.size⟩
    clear hNt hB3 HB1 hLA hn
    go_wp2_with fail
    refine HRN.out.mono ?_
    rintro e w4 ⟨c, T, rfl, hRn, hB4⟩
    have HFS : Hid (FS w.heap.size w w4 b c 0 0) := ⟨_, _, _, _, Bo.start HN3.out hRn hB4 hz1 HB3.out.2, HB3.out.1.trans (hB4.mono (by have := HB3.out; omega)), by simp [newN], by simp⟩
    clear hRn hB4 HB3 HN3 HRN
    cases t with
    | false =>
      go_wp2
      go_ret
      exact ⟨rfl, HFS.out.bel⟩
    | true =>
      have hl3 : l.length ≤ 300 := HT.out rfl
      clear HT
      go_wp2_with fail
      obtain ⟨G, hG⟩ : ∃ G, w.heap.size = G := ⟨_, rfl⟩
      have HG : Hid (w.heap.size = G) := hG
      rw [hG] at HFS HO
      clear hG
      go_loopw [9] (fun iv wr => ∃ i : Nat, iv = .int .i64 (i : Int) ∧ i ≤ l.length ∧ FS G w wr b c i i) (fun iv _ => l.length - (intOf iv).toNat)
      case atStart => exact ⟨0, rfl, Nat.zero_le _, HFS.out⟩
      case round =>
        obtain ⟨i, rfl, hi, hFS⟩ := hrel
        have HF : Hid (FS G w wr b c i i) := hFS
        clear hFS HFS
        by_cases hlt : i < l.length
        · obtain ⟨ab, off, hea, hb, he⟩ := HO.out.at hlt
          subst hea
          have hon := HIN.out i hlt
          have he1 := he.below hb HF.out.bel
          have hda := he.2
          generalize l.getD i nilOpn = o at *
          obtain ⟨kd, oa, ob, up, da, dc, d⟩ := o
          obtain ⟨⟨c0, c1, c2, c3, c4⟩, -⟩ := he1
          unfold Opn.x at c4 hda
          simp only at c0 c1 c2 c3 c4 hda
          have hGw : G ≤ w.heap.size := by rw [← HG.out]; exact Nat.le_refl _
          have HC : Hid (Calls _ _ _ _ _) := HF.out.does hGw (by omega) (by omega) kd oa ob up da dc d hda hon.1 hon.2
          have i0 : (0 : Int) ≤ (i : Int) := by omega
          have i1 : (i : Int) < (l.length : Int) := by omega
          have hbw : ab < wr.heap.size := by have := HF.out.bel.size; have := HG.out; omega
          clear he hda hb hon HF
          go_wp2_with fail
          refine HC.out.mono ?_
          rintro e w5 ⟨rfl, hF5⟩
          have HF5 : Hid (FS G w w5 b c (i + 1) (i + 1)) := hF5
          have HLS : Hid (Calls _ _ _ _ _) := hF5.list
          clear hF5 HC c0 c1 c2 c3 c4
          go_wp2_with fail
          refine HLS.out.mono ?_
          rintro e w6 ⟨fa, fs, fc, va, vn, rfl, ⟨hf2, hfc, hfm⟩, hB6, hW6, hdl, ⟨hc6, hcw6, -⟩, hRow⟩
          have HRW : Hid (Calls _ _ _ _ _) := hRow
          have HW6 : Hid (WoR w5.heap.size w6 fa fs 0) := hW6
          have HB6 : Hid (Below w5.heap.size w5 w6) := hB6
          have HDL : Hid (∀ e ∈ fs, e.d.length ≤ 140737488355328) := hdl
          clear hRow hW6 hB6 hdl HLS
          go_wp2_with fail
          refine HRW.out.mono ?_
          rintro e w7 ⟨rfl, hB7⟩
          have HW7 : Hid (WoR w5.heap.size w7 fa fs 0) := HW6.out.below hB7
          have HB7 : Hid (Below w5.heap.size w5 w7) := HB6.out.trans (hB7.mono HB6.out.size)
          clear hB7 HW6 HB6 HRW hc6 hcw6
          go_wp2_with fail
          go_loopw [13] (fun kv wx => ∃ k : Nat, kv = .int .i64 (k : Int) ∧ k ≤ fs.length ∧ WoR w5.heap.size wx fa fs k ∧ Below w5.heap.size w5 wx) (fun kv _ => fs.length - (intOf kv).toNat)
          case atStart => exact ⟨0, rfl, Nat.zero_le _, HW7.out, HB7.out⟩
          case round =>
            obtain ⟨k, rfl, hk, hWk, hBk⟩ := hrel
            have HWK : Hid (WoR w5.heap.size wr fa fs k) := hWk
            have HBK : Hid (Below w5.heap.size w5 wr) := hBk
            clear hWk hBk HW7 HB7
            by_cases hkl : k < fs.length
            · have k0 : (0 : Int) ≤ (k : Int) := by omega
              have k1 : (k : Int) < (fs.length : Int) := by omega
              have hdl := HDL.out _ (getD_mem' hkl)
              obtain ⟨mm, hmm⟩ : ∃ mm, fs.getD k nilMl = mm := ⟨_, rfl⟩
              rw [hmm] at hdl
              have HMM : Hid (fs.getD k nilMl = mm) := hmm
              obtain ⟨g, hfa, -, -, -, -⟩ := HWK.out.at hkl
              subst hfa
              clear hmm
              go_wp2_with fail
              go_loopw [14] (fun jv wx => ∃ j : Nat, jv = .int .i64 (j : Int) ∧ j ≤ mm.d.length ∧ WoR w5.heap.size wx (some ⟨g, 0, none⟩) fs k ∧ Below w5.heap.size w5 wx) (fun jv _ => mm.d.length - (intOf jv).toNat)
              case atStart => exact ⟨0, rfl, Nat.zero_le _, HWK.out, HBK.out⟩
              case round =>
                obtain ⟨j, rfl, hj, hWj, hBj⟩ := hrel
                have HWJ : Hid (WoR w5.heap.size wr (some ⟨g, 0, none⟩) fs k) := hWj
                have HBJ : Hid (Below w5.heap.size w5 wr) := hBj
                obtain ⟨g', hg', -, hgw, cd, hce, hfz⟩ := hWj.at hkl
                cases hg'
                rw [HMM.out] at cd
                clear hWj hBj HWK HBK
                by_cases hjl : j < mm.d.length
                · have j0 : (0 : Int) ≤ (j : Int) := by omega
                  have j1 : (j : Int) < (mm.d.length : Int) := by omega
                  obtain ⟨ge, u, hea, hc, hf, hgel, hW', hB'⟩ := HWJ.out.dat hkl (j := j) (by rw [HMM.out]; exact hjl) 31
                  rw [HMM.out] at hea
                  have HW' : Hid (WoR w5.heap.size (wr.setCell ⟨ge, j, none⟩ (.int .u8 31)) (some ⟨g, 0, none⟩) fs k) := hW'
                  have HB' : Hid (Below w5.heap.size w5 (wr.setCell ⟨ge, j, none⟩ (.int .u8 31))) := HBJ.out.trans hB'
                  rw [hea] at cd
                  clear hW' hB' HWJ HBJ hea hce hfz
                  go_wp2
                  exact ⟨⟨j + 1, by go_num, by omega, HW'.out, HB'.out⟩, by simp [intOf]; omega⟩
                · have hjl' : ¬ (j : Int) < (mm.d.length : Int) := by omega
                  have HNX : Hid (∀ w', w' = wr.setCells g (k * 5) [.int .i64 0, .int .i64 0, .int .i64 0, .slice none 0 0, .bool false] → WoR w5.heap.size w' (some ⟨g, 0, none⟩) fs (k + 1) ∧ Below w5.heap.size w5 w') := fun w' hw' => by
                    obtain ⟨q1, q2⟩ := HWJ.out.next hkl _ rfl hw'
                    exact ⟨q1, HBJ.out.trans q2⟩
                  obtain ⟨u0, k0'⟩ := hce 0 (by omega)
                  obtain ⟨u1, k1'⟩ := hce 1 (by omega)
                  obtain ⟨u2, k2'⟩ := hce 2 (by omega)
                  obtain ⟨u3, k3'⟩ := hce 3 (by omega)
                  obtain ⟨u4, k4'⟩ := hce 4 (by omega)
                  rw [Nat.add_zero] at k0'
                  have f0 := hfz (k * 5)
                  have f1 := hfz (k * 5 + 1)
                  have f2 := hfz (k * 5 + 2)
                  have f3 := hfz (k * 5 + 3)
                  have f4 := hfz (k * 5 + 4)
                  clear hce hfz k3' HWJ HBJ
                  go_wp2
                  exact ⟨⟨k + 1, by go_num, by omega, (HNX.out _ rfl).1, (HNX.out _ rfl).2⟩, by simp [intOf]; omega⟩
            · have hkl' : ¬ (k : Int) < (fs.length : Int) := by omega
              have HF6 : Hid (FS G w wr b c (i + 1) (i + 1)) := HF5.out.below hGw HBK.out
              obtain ⟨q, va9, vn9, hq, hLn, hcl, hcw⟩ := HF6.out.len
              have HLN : Hid (∀ n : Nat, Calls _ _ _ _ _) := hLn
              clear hLn HWK HBK HF5
              go_wp2_with fail
              go_quiet ((go_at_call 14; exact Calls.quiet_of_same (HLN.out _)))
              go_wp2
              exact ⟨⟨i + 1, by go_num, by omega, (HF6.out.drewN _)⟩, by simp [intOf]; omega⟩
        · have hlt' : ¬ (i : Int) < (l.length : Int) := by omega
          have HFd : Hid (FS G w wr.drew b c i i) := HF.out.drewN 1
          have HBL : Hid (Below G w wr.drew) := HFd.out.bel
          obtain ⟨q, va9, vn9, hq, -, hcl, hcw⟩ := HF.out.len
          have HLS : Hid (Calls _ _ _ _ _) := HFd.out.list2 (va := va9) (q := q) (vn := vn9) hcl
          have HZZ : Hid (G ≤ wr.drew.heap.size) := by have := HBL.out.size; have := HG.out; show G ≤ wr.drew.heap.size; omega
          clear HF HFd
          go_wp2_with fail
          go_region_held3 (fun wx => wx.cell? ⟨c, 1, none⟩ = some (.slice va9 q vn9)) (first | assumption | go_keep)
            (first
              | (go_at_call 12; refine HLS.out.mono ?_; rintro r w6 ⟨fa, fc, rfl, hc6, hR6⟩; have HR6 : Hid (Calls _ _ _ _ _) := hR6; clear hR6)
              | (go_at_call 13; refine HR6.out.mono ?_; rintro r w7 ⟨rfl, hc7, hB7⟩; have HB7 : Hid (Below G w w7) := HBL.out.trans (hB7.mono HZZ.out); clear hB7)
              | fail)
          go_wp2
          go_ret
          exact ⟨rfl, by rw [HG.out]; exact HB7.out⟩
  · refine (New_no nodes hn w1).mono ?_
    rintro e w3 ⟨rfl, hw3⟩
    subst w3
    have HRN : Hid (Calls _ _ _ _ _) := RNew_no nodes hn w1
    clear hn
    go_wp2_with fail
    refine HRN.out.mono ?_
    rintro e w3 ⟨rfl, hw3⟩
    subst w3
    go_wp2
    go_ret
    exact ⟨rfl, HB1.out⟩
end Go.Proofs.Ytefbfjlmhfmiiaa
