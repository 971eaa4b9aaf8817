/-
  does, kind 0: an Append. does, some kinds of operations.
-/
import Derived.Test.YteekpfgjpdopmaaXb
import Derived.Deep.RegionHeld3
import Derived.Test.YteekpfgjpdopmaaDy
namespace Go.Proofs.Yteekpfgjpdopmaa
open Go.RowKit
set_option linter.unusedVariables false

set_option maxRecDepth 100000 in
set_option maxHeartbeats 8000000 in
theorem does0_any {N : Nat} {S T : Nat → Prop} {w : World} {b d : Nat} {P : PL} (h : Bw N S T w b d P P) (n t m : Int) (ea : Option Addr) (el ec : Nat) (ba : Option Addr) (bc : Nat) (B : List UInt8) (M : Nat) (hsl : Sl M w (.slice ba B.length bc) B) (hM : M ≤ N) (hl : B.length ≤ 140737488351232) :
    Calls Try.prog 14 #[.pointer (some ⟨b, 0, none⟩), .pointer (some ⟨d, 0, none⟩), .agg #[.int .i64 0, .int .i64 n, .int .i64 t, .int .i64 m, .slice ea el ec, .slice ba B.length bc]] w fun e w' => Dn8 N w b d e w' := by
  obtain ⟨W, HW⟩ : ∃ W, Hid ((((w.alloc (.cells #[.pointer (some ⟨b, 0, none⟩)] 25)).alloc (.cells #[.pointer (some ⟨d, 0, none⟩)] 29)).alloc (.cells #[.int .i64 0, .int .i64 n, .int .i64 t, .int .i64 m, .slice ea el ec, .slice ba B.length bc] 37)) = W) := ⟨_, rfl⟩
  have HD0 := Dz.start h 0 n t m (.slice ea el ec) (.slice ba B.length bc)
  rw [HW.out] at HD0
  have HD : Hid (Dz N S T w W b d w.heap.size P P 0 n t m (.slice ea el ec) (.slice ba B.length bc)) := HD0
  obtain ⟨⟨c0, c1⟩, c2, c3, c4, c5, c6, c7⟩ := HD0.cells
  have hW3 : w.heap.size + 3 ≤ W.heap.size := HD0.hX
  have hl0 : w.heap.size < W.heap.size := by omega
  have hl1 : w.heap.size + 1 < W.heap.size := by omega
  have hl2 : w.heap.size + 2 < W.heap.size := by omega
  have HSL : Hid (∀ V, Below N w V → Sl M V (.slice ba B.length bc) B) := fun V hV => hsl.below (hV.mono hM)
  have HMN : Hid (M ≤ N ∧ N ≤ w.heap.size) := ⟨hM, h.hN⟩
  have HST : Hid ((∀ i, S i → i < W.heap.size) ∧ (∀ i, T i → i < W.heap.size) ∧ N ≤ W.heap.size) := ⟨HD0.bw.l.inn, HD0.bw.r.inn, HD0.bw.hN⟩
  have HC1 : Hid (Calls _ _ _ _ _) := lent_any M _ B W (HSL.out W HD0.bel) (Nat.le_trans hM HD0.bw.hN) hl
  have HRA : Hid (∀ V T', Dz N (fun i => S i ∨ W.heap.size ≤ i) T' w V b d w.heap.size P P 0 n t m (.slice ea el ec) (.slice ba B.length bc) → True) := fun _ _ _ => trivial
  have HR : Hid (∀ (V : World) (T' : Nat → Prop), Below N w V → N ≤ V.heap.size → Rg N T' V d P → Calls Try.prog 20 #[.pointer (some ⟨d, 0, none⟩), .int .i64 t, .int .i64 m, .slice ba B.length bc] V fun r w' => r = .returned (.tuple #[.int .i64 (if apE P t m B.length = 0 then P.li + 1 else 0), .int .i64 (apE P t m B.length : Int)]) ∧ RTh N T' V w' d (apL P t m B)) := fun V T' hV hN hr => RAppend_anyX hr hN t m ba B bc M (HSL.out V hV) (Nat.le_trans hM hN) (by omega)
  have HA : Hid (∀ (V : World) (g cap : Nat), Lg N S V b P → N ≤ V.heap.size → Sl V.heap.size V (.slice (some ⟨g, 0, none⟩) B.length cap) B → Calls Try.prog 19 #[.pointer (some ⟨b, 0, none⟩), .int .i64 t, .int .i64 m, .slice (some ⟨g, 0, none⟩) B.length cap] V fun r w' => r = .returned (.tuple #[.int .i64 (if apE P t m B.length = 0 then P.li + 1 else 0), .int .i64 (apE P t m B.length : Int)]) ∧ LTh N S V w' b (apL P t m B)) := fun V g cap hr hN hs => Append_any hr hN t m _ B cap V.heap.size hs (Nat.le_refl _)
  clear h HD0 hsl hM HRA
  generalize apL P t m B = P1 at *
  generalize (if apE P t m B.length = 0 then P.li + 1 else 0) = rI at *
  generalize ((apE P t m B.length : Nat) : Int) = rE at *
  go_enter Try.func14, Try.ntmps14
  go_wp2_with fail
  rw [HW.out]
  refine HC1.out.mono ?_
  rintro r w1 ⟨g, cap, rfl, hO1, hB1⟩
  have HD2 : Hid (Dz N S T w w1 b d w.heap.size P P 0 n t m (.slice ea el ec) (.slice ba B.length bc)) := HD.out.below hB1
  have HO1 : Hid (Ow W.heap.size w1 (.slice (some ⟨g, 0, none⟩) (B.length + 1) cap) (B ++ [201])) := hO1
  have hg1 : W.heap.size ≤ g ∧ g < w1.heap.size := World.ownsRow.lt hO1 g rfl
  have hz1 := hB1.size
  obtain ⟨⟨y0, y1⟩, y2, y3, y4, y5, y6, y7⟩ := HD2.out.cells
  have C2 := HA.out w1 g cap HD2.out.bw.l HD2.out.bw.hN (hO1.lent (Nat.le_refl _))
  have HC2 : Hid (Calls _ _ _ _ _) := C2
  obtain ⟨-, hcp, hcm⟩ := hO1.mark
  unfold maxLen at hcm
  have HG : Hid ((W.heap.size ≤ g ∧ g < w1.heap.size) ∧ w.heap.size + 3 ≤ g) := ⟨hg1, by omega⟩
  clear hB1 hO1 C2 HC1 c0 c1 c2 c3 c4 c5 c6 c7 HA HD
  go_wp2_with fail
  refine HC2.out.mono ?_
  rintro r w2 ⟨rfl, t2⟩
  have HD3 : Hid (Dz N (grew S w1 w2) T w w2 b d w.heap.size P1 P 0 n t m (.slice ea el ec) (.slice ba B.length bc)) := HD2.out.one t2
  have HO2 : Hid (Ow W.heap.size w2 (.slice (some ⟨g, 0, none⟩) (B.length + 1) cap) (B ++ [201])) := HO1.out.out t2.out (fun i hi hs => by have e : g = i := (by cases hi; rfl); subst e; have := HST.out.1 _ hs; have := HG.out; omega)
  have hz2 := t2.out.size
  obtain ⟨⟨c0, c1⟩, c2, c3, c4, c5, c6, c7⟩ := HD3.out.cells
  have C3 := HR.out w2 T HD3.out.bel HD3.out.bw.hN HD3.out.bw.r
  have HC3 : Hid (Calls _ _ _ _ _) := C3
  clear t2 C3 HC2 HR y0 y1 y2 y3 y4 y5 y6 y7 HD2 HO1
  go_wp2_with fail
  refine HC3.out.mono ?_
  rintro r w3 ⟨rfl, t3⟩
  have HD4 : Hid (Dz N (grew S w1 w2) (grew T w2 w3) w w3 b d w.heap.size P1 P1 0 n t m (.slice ea el ec) (.slice ba B.length bc)) := HD3.out.two t3
  have HO3 : Hid (Ow W.heap.size w3 (.slice (some ⟨g, 0, none⟩) (B.length + 1) cap) (B ++ [201])) := HO2.out.out t3.out (fun i hi hs => by have e : g = i := (by cases hi; rfl); subst e; have := HST.out.2.1 _ hs; have := HG.out; omega)
  have hz3 := t3.out.size
  obtain ⟨⟨y0, y1⟩, y2, y3, y4, y5, y6, y7⟩ := HD4.out.cells
  have C4 := kept_any W.heap.size g cap _ B w3 hl HO3.out ((HSL.out w3 HD4.out.bel).mono (Nat.le_trans HMN.out.1 HD4.out.bw.hN))
  have HC4 : Hid (Calls _ _ _ _ _) := C4
  clear t3 C4 HC3 c0 c1 c2 c3 c4 c5 c6 c7 HD3 HO2
  go_wp2_with fail
  refine HC4.out.mono ?_
  rintro r w4' ⟨rfl, n4, rfl⟩
  obtain ⟨w4, hw4⟩ : ∃ w4, w3.drewN n4 = w4 := ⟨_, rfl⟩
  have HD5 : Hid (Dz N (grew S w1 w2) (grew T w2 w3) w w4 b d w.heap.size P1 P1 0 n t m (.slice ea el ec) (.slice ba B.length bc)) := by show Dz _ _ _ _ _ _ _ _ _ _ _ _ _ _ _ _; rw [← hw4]; exact HD4.out.off (Y := fun _ => False) (Out.drew _ _) (fun _ q => q.elim) (fun _ q => q.elim) (fun _ q => q.elim) (fun _ q => q.elim)
  have HO4 : Hid (Ow W.heap.size w4 (.slice (some ⟨g, 0, none⟩) (B.length + 1) cap) (B ++ [201])) := by show Ow _ _ _ _; rw [← hw4]; exact HO3.out.out (X := fun _ => False) (Out.drew _ _) (fun _ _ q => q)
  rw [hw4]
  have HOff : Hid (∀ V V', Out (fun i => i = g) V V' → Dz N (grew S w1 w2) (grew T w2 w3) w V b d w.heap.size P1 P1 0 n t m (.slice ea el ec) (.slice ba B.length bc) → Dz N (grew S w1 w2) (grew T w2 w3) w V' b d w.heap.size P1 P1 0 n t m (.slice ea el ec) (.slice ba B.length bc)) := fun V V' hO hD => hD.off hO (fun i hi hs => by cases hi; have h2 := HG.out; rcases hs with hs | hs; (have := HST.out.1 _ hs; omega); omega) (fun i hi hs => by cases hi; have h2 := HG.out; rcases hs with hs | hs; (have := HST.out.2.1 _ hs; omega); omega) (fun i hi => by cases hi; exact HG.out.2) (fun i hi => by cases hi; have := HG.out; have := HST.out.2.2; omega)
  clear HC4 HD4 HO3 y0 y1 y2 y3 y4 y5 y6 y7 hw4
  go_wp2_with fail
  go_loopw [13] (fun iv wr => ∃ k : Nat, iv = .int .i64 (k : Int) ∧ k ≤ B.length ∧ (∃ l', l'.length = B.length + 1 ∧ Ow W.heap.size wr (.slice (some ⟨g, 0, none⟩) l'.length cap) l') ∧ Dz N (grew S w1 w2) (grew T w2 w3) w wr b d w.heap.size P1 P1 0 n t m (.slice ea el ec) (.slice ba B.length bc)) (fun iv _ => B.length - (intOf iv).toNat)
  case atStart => exact ⟨0, rfl, Nat.zero_le _, ⟨B ++ [201], by simp, by have := HO4.out; simpa using this⟩, HD5.out⟩
  case round =>
    obtain ⟨k, rfl, hk, ⟨l', hl', hO⟩, hDr⟩ := hrel
    have HO : Hid (Ow W.heap.size wr (.slice (some ⟨g, 0, none⟩) l'.length cap) l') := hO
    have HDr : Hid (Dz N (grew S w1 w2) (grew T w2 w3) w wr b d w.heap.size P1 P1 0 n t m (.slice ea el ec) (.slice ba B.length bc)) := hDr
    clear hO hDr HD5 HO4
    by_cases hlt : k < B.length
    · have hlt' : (k : Int) < (B.length : Int) := by omega
      have hk0 : (0 : Int) ≤ (k : Int) := by omega
      obtain ⟨g', u, hea, c4, c5, hgl2⟩ := HO.out.can k (by omega)
      cases hea
      have HP1 : Hid (Ow W.heap.size (wr.setCell ⟨g, k, none⟩ (.int .u8 75)) (.slice (some ⟨g, 0, none⟩) l'.length cap) (l'.set k 75)) := HO.out.store k 75
      have HP2 : Hid (Dz N (grew S w1 w2) (grew T w2 w3) w (wr.setCell ⟨g, k, none⟩ (.int .u8 75)) b d w.heap.size P1 P1 0 n t m (.slice ea el ec) (.slice ba B.length bc)) := HOff.out wr _ (Out.set rfl) HDr.out
      have HLL : Hid (l'.length = B.length + 1) := hl'
      clear HO HDr hl'
      go_wp2
      exact ⟨⟨k + 1, by go_num, by omega, ⟨l'.set k 75, by simpa using HLL.out, by have := HP1.out; simpa using this⟩, HP2.out⟩, by simp [intOf]; omega⟩
    · have hlt' : ¬ (k : Int) < (B.length : Int) := by omega
      clear hl' HO
      go_wp2_with (first | (go_at_call 13; refine (num_any _ _).mono ?_; rintro r wz ⟨rfl, hz⟩; subst wz) | fail)
      go_ret
      exact HDr.out.dn (by simp)
end Go.Proofs.Yteekpfgjpdopmaa
namespace Go.Proofs.Yteekpfgjpdopmaa
open Go.RowKit
set_option linter.unusedVariables false

theorem firstErrR_says : ∀ es : List Ent, firstErr (es.map Ent.says) = firstErrR es
  | [] => rfl
  | e :: r => by
    have ih := firstErrR_says r
    simp only [List.map_cons, firstErr, firstErrR, ih]
    rfl
theorem goes_says {tm : Int} : ∀ (es : List Ent) (ix lt : Int), goes tm ix lt es = true → goesE ix lt (es.map Ent.says) = true
  | [], _, _, _ => rfl
  | e :: r, ix, lt, h => by
    simp only [goes, Bool.and_eq_true, beq_iff_eq] at h
    obtain ⟨⟨h1, h2⟩, h3⟩ := h
    have ih := goes_says r (ix + 1) e.t h3
    have h4 : lt ≤ e.t := by unfold isIn at h2; simp at h2; exact h2.1
    simp only [List.map_cons, goesE, Bool.and_eq_true, beq_iff_eq, decide_eq_true_eq]
    refine ⟨⟨h1, h4⟩, ?_⟩
    show goesE e.i e.t (r.map Ent.says) = true
    rw [h1]
    exact ih
theorem may_ok {n t : Int} {es : List Ent} (h : mayB n t es = true) : es.length ≤ 64 ∧ ckList n t (es.map Ent.says) = 0 ∧ ∀ e ∈ es, e.d.length ≤ 1000000000 := by
  unfold mayB ckM3 at h
  simp only [beq_iff_eq] at h
  have hA : ckApp 4611686018427387904 n t es = 0 := by
    split at h
    · cases h
    · split at h
      · cases h
      · split at h
        · cases h
        · exact h
  unfold ckApp at hA
  have h1 : es.length ≤ 64 := by
    by_cases q : 64 < es.length
    · rw [if_pos q] at hA; cases hA
    · omega
  rw [if_neg (by omega)] at hA
  have h2 : firstErrR es = 0 := by
    by_cases q : firstErrR es = 0
    · exact q
    · rw [if_pos q] at hA; exact hA
  rw [if_neg (by simpa using h2)] at hA
  have h3 : goes 4611686018427387904 n t es = true := by
    unfold fI at hA
    split at hA
    · cases hA
    · rename_i q
      simp only [Bool.or_eq_true, not_or, Bool.not_eq_true, Bool.not_eq_false'] at q
      simpa using q.2
  have hf : firstErr (es.map Ent.says) = 0 := by rw [firstErrR_says]; exact h2
  refine ⟨h1, ?_, fun e he => ?_⟩
  · unfold ckList
    rw [if_neg (by simpa using hf), if_pos (goes_says es n t h3)]
  · have := eCk_ok (firstErr_all.1 hf e.says (List.mem_map.2 ⟨e, he, rfl⟩))
    have h5 : e.d.length ≤ 4096 := this.2.2.2.2
    omega
/-- Entries of the call's own lie apart from a log that was there. -/
theorem EntsOw.stay {N M : Nat} {S : Nat → Prop} {w : World} {va : Option Addr} {vc : Nat} {fs : List Ent} (h : EntsOw M w (.slice va fs.length vc) fs) (hS : ∀ i, S i → i < M) : Sta S w va fs := fun w' hO =>
  ⟨w'.heap.size, Nat.le_refl _, (h.out hO (fun g hg hs => by have := hS g hs; have := (h.lt hg).1; omega) (fun e he g hg hs => by have := hS g hs; have := ((h.dat e he).lt hg).1; omega)).at⟩

set_option maxRecDepth 100000 in
set_option maxHeartbeats 8000000 in
theorem does1_any {N : Nat} {S T : Nat → Prop} {w : World} {b d : Nat} {P : PL} (h : Bw N S T w b d P P) (n t m : Int) (ea : Option Addr) (ec : Nat) (es : List Ent) (M : Nat) (hE : EntsAt M w ea es) (hM : M ≤ N) (hn : es.length ≤ 1000000) (hec : es.length ≤ ec) (hem : ec ≤ maxLen) (ba : Option Addr) (bl bc : Nat) :
    Calls Try.prog 14 #[.pointer (some ⟨b, 0, none⟩), .pointer (some ⟨d, 0, none⟩), .agg #[.int .i64 1, .int .i64 n, .int .i64 t, .int .i64 m, .slice ea es.length ec, .slice ba bl bc]] w fun e w' => Dn8 N w b d e w' := by
  obtain ⟨W, HW⟩ : ∃ W, Hid ((((w.alloc (.cells #[.pointer (some ⟨b, 0, none⟩)] 25)).alloc (.cells #[.pointer (some ⟨d, 0, none⟩)] 29)).alloc (.cells #[.int .i64 1, .int .i64 n, .int .i64 t, .int .i64 m, .slice ea es.length ec, .slice ba bl bc] 37)) = W) := ⟨_, rfl⟩
  have HD0 := Dz.start h 1 n t m (.slice ea es.length ec) (.slice ba bl bc)
  rw [HW.out] at HD0
  have HD : Hid (Dz N S T w W b d w.heap.size P P 1 n t m (.slice ea es.length ec) (.slice ba bl bc)) := HD0
  obtain ⟨⟨c0, c1⟩, c2, c3, c4, c5, c6, c7⟩ := HD0.cells
  have hW3 : w.heap.size + 3 ≤ W.heap.size := HD0.hX
  have hl0 : w.heap.size < W.heap.size := by omega
  have hl1 : w.heap.size + 1 < W.heap.size := by omega
  have hl2 : w.heap.size + 2 < W.heap.size := by omega
  have HE : Hid (∀ V, Below N w V → EntsAt M V ea es) := fun V hV => hE.below (hV.mono hM)
  have HMN : Hid (M ≤ N ∧ N ≤ w.heap.size) := ⟨hM, h.hN⟩
  have HST : Hid ((∀ i, S i → i < W.heap.size) ∧ (∀ i, T i → i < W.heap.size) ∧ N ≤ W.heap.size) := ⟨HD0.bw.l.inn, HD0.bw.r.inn, HD0.bw.hN⟩
  have HC1 : Hid (Calls _ _ _ _ _) := may_any n t ea ec es M W (HE.out W HD0.bel) (Nat.le_trans hM HD0.bw.hN) hn
  have HEC : Hid (es.length ≤ ec ∧ ec ≤ maxLen) := ⟨hec, hem⟩
  have HMO := @may_ok n t es
  have HMY : Hid (mayB n t es = true → es.length ≤ 64 ∧ ckList n t (es.map Ent.says) = 0 ∧ ∀ e ∈ es, e.d.length ≤ 1000000000) := HMO
  clear h HD0 hE hM hec hem HMO
  generalize mayB n t es = mb at *
  go_enter Try.func14, Try.ntmps14
  go_wp2_with fail
  rw [HW.out]
  refine HC1.out.mono ?_
  rintro r w1 ⟨rfl, hB1⟩
  have HD2 : Hid (Dz N S T w w1 b d w.heap.size P P 1 n t m (.slice ea es.length ec) (.slice ba bl bc)) := HD.out.below hB1
  have hz1 := hB1.size
  obtain ⟨⟨y0, y1⟩, y2, y3, y4, y5, y6, y7⟩ := HD2.out.cells
  clear hB1 HC1 c0 c1 c2 c3 c4 c5 c6 c7
  cases mb with
  | false =>
    go_wp2
    go_ret
    exact HD2.out.dn rfl
  | true =>
    obtain ⟨hl64, hck, hdl⟩ := HMY.out rfl
    have HCK : Hid (ckList n t (es.map Ent.says) = 0) := hck
    have C2 := refEntries_any ea ec es M w1 (HE.out w1 HD2.out.bel) (by have := HMN.out; have := HST.out; omega) (by omega) hdl
    have HC2 : Hid (Calls _ _ _ _ _) := C2
    clear C2 hck hdl HMY
    go_wp2_with fail
    refine HC2.out.mono ?_
    rintro r w2 ⟨v2, fs, rfl, hE2, hs2, hB2⟩
    obtain ⟨a2, cc2, rfl, hcc1, hcc2⟩ := hE2.shape
    have hfl : fs.length = es.length := by have := congrArg List.length hs2; simpa using this
    have HD3 : Hid (Dz N S T w w2 b d w.heap.size P P 1 n t m (.slice ea es.length ec) (.slice ba bl bc)) := HD2.out.below hB2
    have HE2 : Hid (EntsOw w1.heap.size w2 (.slice a2 fs.length cc2) fs) := hE2
    have HS2 : Hid (fs.map Ent.says = es.map Ent.says) := hs2
    have hz2 := hB2.size
    have HIN : Hid ((∀ i, S i → i < w1.heap.size) ∧ (∀ i, T i → i < w1.heap.size)) := ⟨HD2.out.bw.l.inn, HD2.out.bw.r.inn⟩
    have C3 := Try_any HD3.out.bw.l HD3.out.bw.hN n t m a2 cc2 fs (HE2.out.stay (N := 0) HIN.out.1) (by omega) hcc1 hcc2
    rw [hs2] at C3
    have HRT : Hid (∀ V T', Dz N (grew S w2 V) T' w V b d w.heap.size (trL P n t m (es.map Ent.says)) P 1 n t m (.slice ea es.length ec) (.slice ba bl bc) → Calls Try.prog 23 #[.pointer (some ⟨d, 0, none⟩), .int .i64 n, .int .i64 t, .int .i64 m, .slice ea es.length ec] V fun e w' => e = .returned (.tuple #[.int .i64 (trA P n t (es.map Ent.says)), .bool (trY P n t (es.map Ent.says))]) ∧ RTh N T' V w' d (trL P n t m (es.map Ent.says))) := fun V T' hV => RTry_any hV.bw.r hV.bw.hN n t m ea ec es M (HE.out V hV.bel) (Nat.le_trans HMN.out.1 hV.bw.hN) (by omega) HEC.out.1 HEC.out.2 HCK.out
    obtain ⟨⟨c0, c1⟩, c2, c3, c4, c5, c6, c7⟩ := HD3.out.cells
    generalize trA P n t (es.map Ent.says) = tA at *
    generalize trY P n t (es.map Ent.says) = tY at *
    generalize trL P n t m (es.map Ent.says) = P1 at *
    have HC3 : Hid (Calls _ _ _ _ _) := C3
    have HFL : Hid (fs.length = es.length) := hfl
    clear C3 HC2 hE2 hs2 hB2 y0 y1 y2 y3 y4 y5 y6 y7 hfl HCK
    go_wp2_with fail
    refine HC3.out.mono ?_
    rintro r w3 ⟨rfl, t3⟩
    have HD4 : Hid (Dz N (grew S w2 w3) T w w3 b d w.heap.size P1 P 1 n t m (.slice ea es.length ec) (.slice ba bl bc)) := HD3.out.one t3
    have HE3 : Hid (EntsOw w1.heap.size w3 (.slice a2 fs.length cc2) fs) := HE2.out.out t3.out (fun g hg hs => by have := HIN.out.1 g hs; have := (HE2.out.lt hg).1; omega) (fun e he g hg hs => by have := HIN.out.1 g hs; have := ((HE2.out.dat e he).lt hg).1; omega)
    have HLT : Hid (∀ i, OvX (.slice a2 fs.length cc2) fs i → i < w2.heap.size) := fun i hi => (HE2.out.ov.lt hi).2
    have hz3 := t3.out.size
    obtain ⟨⟨y0, y1⟩, y2, y3, y4, y5, y6, y7⟩ := HD4.out.cells
    have C4 := HRT.out w3 T HD4.out
    have HC4 : Hid (Calls _ _ _ _ _) := C4
    clear C4 t3 HC3 HRT c0 c1 c2 c3 c4 c5 c6 c7 HD3 HE2
    go_wp2_with fail
    refine HC4.out.mono ?_
    rintro r w4 ⟨rfl, t4⟩
    have HD5 : Hid (Dz N (grew S w2 w3) (grew T w3 w4) w w4 b d w.heap.size P1 P1 1 n t m (.slice ea es.length ec) (.slice ba bl bc)) := HD4.out.two t4
    have HE4 : Hid (EntsOw w1.heap.size w4 (.slice a2 fs.length cc2) fs) := HE3.out.out t4.out (fun g hg hs => by have := HIN.out.2 g hs; have := (HE3.out.lt hg).1; omega) (fun e he g hg hs => by have := HIN.out.2 g hs; have := ((HE3.out.dat e he).lt hg).1; omega)
    obtain ⟨⟨c0, c1⟩, c2, c3, c4, c5, c6, c7⟩ := HD5.out.cells
    have C5 := sameEntries_any a2 ea cc2 ec fs es w4.heap.size w4 HE4.out.at ((HE.out w4 HD5.out.bel).mono (Nat.le_trans HMN.out.1 HD5.out.bw.hN)) (Nat.le_refl _) (by have := HFL.out; omega)
    rw [HS2.out, decide_eq_true rfl] at C5
    have HC5 : Hid (Calls _ _ _ _ _) := C5
    clear C5 t4 HC4 y0 y1 y2 y3 y4 y5 y6 y7 HD4 HE3
    go_wp2_with fail
    refine HC5.out.mono ?_
    rintro r w5 ⟨rfl, hB5⟩
    have HD6 : Hid (Dz N (grew S w2 w3) (grew T w3 w4) w w5 b d w.heap.size P1 P1 1 n t m (.slice ea es.length ec) (.slice ba bl bc)) := HD5.out.below hB5
    have HE5 : Hid (EntsOw w1.heap.size w5 (.slice a2 fs.length cc2) fs) := HE4.out.below hB5
    have C6 := over_any HE5.out.ov (by have := HFL.out; omega)
    have HC6 : Hid (Calls _ _ _ _ _) := C6
    clear C6 hB5 HC5 HE4 HD5 c0 c1 c2 c3 c4 c5 c6 c7
    go_wp2_with fail
    refine HC6.out.mono ?_
    rintro r w6 ⟨rfl, hO⟩
    have HD7 : Hid (Dz N (grew S w2 w3) (grew T w3 w4) w w6 b d w.heap.size P1 P1 1 n t m (.slice ea es.length ec) (.slice ba bl bc)) := HD6.out.off hO (fun i hi hs => by have h1 := (HE5.out.ov.lt hi).1; have h2 := HLT.out i hi; rcases hs with hs | hs; (have := HIN.out.1 i hs; omega); omega) (fun i hi hs => by have h1 := (HE5.out.ov.lt hi).1; have h2 := HLT.out i hi; rcases hs with hs | hs; (have := HIN.out.2 i hs; omega); omega) (fun i hi => by have := (HE5.out.ov.lt hi).1; omega) (fun i hi => by have := (HE5.out.ov.lt hi).1; have := HST.out.2.2; omega)
    clear hO HC6
    go_wp2
    go_ret
    exact HD7.out.dn (by simp)
end Go.Proofs.Yteekpfgjpdopmaa
