/-
  The document's line of an act.
-/
import Derived.Test.YtbckogojnjmjcaaGreatDoorR6
import Derived.Test.YtbckogojnjmjcaaGreatDoorR5
namespace Go.Proofs.YtbckogojnjmjcaaGreatDoor
open Go.RowKit Go.Shelf

set_option maxRecDepth 100000 in
set_option maxHeartbeats 8000000 in
theorem rformatAct_any (a : Ac) (ha : AcOk a) (w : World) (hv : Vars w) : Calls Tryz.prog 17 #[.agg a.cells] w fun e w' => e = FmE (docF a) ∧ Below w.heap.size w w' := by
  have HV : Hid (∀ W, Below w.heap.size w W → Vars W) := fun W h => hv.below h
  have HA : Hid (AcOk a) := ha
  obtain ⟨W0, hW0⟩ : ∃ W0, w.alloc (.cells a.cells 37) = W0 := ⟨_, rfl⟩
  have HB0 : Hid (Below w.heap.size w W0) := by show Below _ _ _; rw [← hW0]; exact (Below.refl _ _).alloc (Nat.le_refl _) _
  have HX0 : Hid (RcAt W0 w.heap.size a) := by show RcAt _ _ _; rw [← hW0]; exact heap_alloc_new w _
  unfold Ac.cells str at hW0
  have HW0 : Hid (_ = W0) := hW0
  have HD1 : Hid (a.kind < 1 ∨ 16 < a.kind → docF a = .error 6) := fun h => by unfold docF; rw [if_pos h]
  have HD2 : Hid (¬ (a.kind < 1 ∨ 16 < a.kind) → a.kind = 13 ∧ (a.op < 1 ∨ 4 < a.op) → docF a = .error 20) := fun h k => by unfold docF; rw [if_neg h, if_pos k]
  have HD3 : Hid (¬ (a.kind < 1 ∨ 16 < a.kind) → ¬ (a.kind = 13 ∧ (a.op < 1 ∨ 4 < a.op)) → ∀ row, selF a fo00 formsL = row → docF a = if docC row a ≠ 0 then .error (docC row a) else if 4096 < (takeL row.pl a row.word).length then .error 3 else .ok (takeL row.pl a row.word)) := fun h k row e => by subst e; unfold docF; rw [if_neg h, if_neg k]
  have HSF : Hid (¬ (a.kind < 1 ∨ 16 < a.kind) → ¬ (a.kind = 13 ∧ (a.op < 1 ∨ 4 < a.op)) → ∃ f ∈ formsL, selF a fo00 formsL = f) := fun h k => by
    obtain ⟨f, h1, h2, -⟩ := sel_form a (by omega) (by omega) (fun q => by omega)
    exact ⟨f, h1, h2⟩
  generalize docF a = df at *
  unfold Ac.cells str
  clear hW0 ha hv
  go_enter Tryz.func17, Tryz.ntmps17
  go_upto_region 1 with fail
  rw [HW0.out]
  obtain ⟨a0, a1, a2, a3, a4, a5, a6, a7, a8⟩ := HX0.out.cells
  by_cases h1 : a.kind < 1
  · have HR : Hid (df = .error 6) := HD1.out (.inl h1)
    go_wp2
    go_ret2
    exact ⟨by rw [HR.out]; rfl, HB0.out⟩
  by_cases h2 : 16 < a.kind
  · have HR : Hid (df = .error 6) := HD1.out (.inr h2)
    go_wp2
    go_ret2
    exact ⟨by rw [HR.out]; rfl, HB0.out⟩
  have HK : Hid (¬ (a.kind < 1 ∨ 16 < a.kind)) := fun h => h.elim h1 h2
  by_cases hbad : a.kind = 13 ∧ (a.op < 1 ∨ 4 < a.op)
  · have HR : Hid (df = .error 20) := HD2.out HK.out hbad
    obtain ⟨hk, hop⟩ := hbad
    rw [hk] at a0
    clear hk h1 h2
    by_cases h3 : a.op < 1
    · go_wp2
      go_ret2
      exact ⟨by rw [HR.out]; rfl, HB0.out⟩
    · have h4 : 4 < a.op := hop.elim (fun h => absurd h h3) id
      clear hop
      go_wp2
      go_ret2
      exact ⟨by rw [HR.out]; rfl, HB0.out⟩
  obtain ⟨ro, hrm, hrs⟩ := HSF.out HK.out hbad
  have HDR : Hid (df = if docC ro a ≠ 0 then .error (docC ro a) else if 4096 < (takeL ro.pl a ro.word).length then .error 3 else .ok (takeL ro.pl a ro.word)) := HD3.out HK.out hbad ro hrs
  have HRM : Hid (ro ∈ formsL) := hrm
  have HRS : Hid (selF a fo00 formsL = ro) := hrs
  clear HD1 HD2 HD3 HSF hrm hrs
  have HRO := rrows_any W0
  go_upto_region 3 with fail
  go_cut [30] (fun v wx => v = .bool false ∧ wx = W0)
  case first =>
    by_cases hk : a.kind = 13
    · rw [hk] at a0
      have h3 : ¬ a.op < 1 := fun h => hbad ⟨hk, .inl h⟩
      have h4 : ¬ 4 < a.op := fun h => hbad ⟨hk, .inr h⟩
      clear hk h1 h2 hbad
      go_wp2
      go_meet
      exact ⟨rfl, rfl⟩
    · have hkb : (a.kind == 13) = false := by simpa using hk
      clear hk h1 h2 hbad
      go_wp2
      go_meet
      exact ⟨rfl, rfl⟩
  case rest =>
    obtain ⟨hu, hw⟩ := hcut
    subst hu
    subst hw
    clear h1 h2 hbad HK a0 a1 a2 a3 a4 a5 a6 a7 a8 HW0
    generalize wc = W0 at *
    go_wp2_with fail
    refine HRO.mono ?_
    rintro e w1 ⟨⟨g, rfl, hG⟩, hB1⟩
    have HG1 : Hid (RoAt w1 g) := hG
    have HX1 : Hid (RcAt w1 w.heap.size a) := HX0.out.below hB1
    have HB1 : Hid (Below w.heap.size w w1) := HB0.out.trans (hB1.mono HB0.out.size)
    have hz1 : w.heap.size < w1.heap.size := HX1.out.lt
    have HW2 : Hid (RwAt (w1.alloc (.cells (rrow fo00).toArray 119)) w1.heap.size fo00) := heap_alloc_new w1 _
    have HB2 : Hid (∀ o, Below w1.heap.size w1 (w1.alloc o)) := fun o => (Below.refl _ _).alloc (Nat.le_refl _) o
    unfold fo00 rrow str at HW2
    clear hG hB1 HRO HX0 HB0
    go_wp2
    generalize hW2 : World.alloc w1 _ = W2
    have HR2 : Hid (RwAt W2 w1.heap.size fo00) := by show RwAt _ _ _; rw [← hW2]; exact HW2.out
    have HB12 : Hid (Below w1.heap.size w1 W2) := by show Below _ _ _; rw [← hW2]; exact HB2.out _
    have HG2 : Hid (RoAt W2 g) := HG1.out.below HB12.out
    have HX2 : Hid (RcAt W2 w.heap.size a) := HX1.out.below HB12.out
    have HBw2 : Hid (Below w.heap.size w W2) := HB1.out.trans (HB12.out.mono (by omega))
    have hgn : g < w1.heap.size := HG1.out.lt
    have hz2 : w1.heap.size < W2.heap.size := HR2.out.lt
    clear hW2 HW2 HB2 HG1 HX1 HB1 HB12
    generalize w1.heap.size = rb at *
    clear w1
    go_loopw [6] (fun i wr => ∃ (k : Nat) (row : Fo), i = .int .i64 k ∧ k ≤ 20 ∧ Hid (RwAt wr rb row) ∧ Hid (selF a row (formsL.drop k) = ro) ∧ Hid (Out (fun i => i = rb) W2 wr)) (fun i _ => 20 - (intOf i).toNat)
    case atStart => exact ⟨0, fo00, rfl, by omega, HR2.out, by show _ = _; rw [List.drop_zero]; exact HRS.out, Out.refl _ _⟩
    case round =>
      obtain ⟨k, row, rfl, hk, HRW, HSL, HOU⟩ := hrel
      have hzr : W2.heap.size ≤ wr.heap.size := HOU.out.size
      have HXr : Hid (RcAt wr w.heap.size a) := HX2.out.out HOU.out (by omega)
      have HGr : Hid (RoAt wr g) := HG2.out.out HOU.out (by omega)
      have HBr : Hid (Below w.heap.size w wr) := HBw2.out.trans (HOU.out.below (by omega) (by intro i hi; omega))
      by_cases hlt : k < 20
      · obtain ⟨f, hf⟩ : ∃ f, formsL[k]? = some f := ⟨_, List.getElem?_eq_getElem (by rw [formsL_length]; exact hlt)⟩
        have HDK : Hid (formsL.drop k = f :: formsL.drop (k + 1)) := by
          obtain ⟨hk1, hk2⟩ := List.getElem?_eq_some_iff.1 hf
          show _ = _
          rw [List.drop_eq_getElem_cons hk1, hk2]
        obtain ⟨cb, hcb⟩ : ∃ cb : Bool, cb = decide (f.kind = a.kind ∧ (a.kind ≠ 13 ∨ f.op = a.op) ∧ (a.kind ≠ 8 ∨ f.m = a.m ∨ row.word = [])) := ⟨_, rfl⟩
        have HCB : Hid (cb = decide (f.kind = a.kind ∧ (a.kind ≠ 13 ∨ f.op = a.op) ∧ (a.kind ≠ 8 ∨ f.m = a.m ∨ row.word = []))) := hcb
        have HYES : Hid (cb = true → selF a f (formsL.drop (k + 1)) = ro) := fun h => by
          have := HSL.out
          rw [HDK.out, selF, if_pos (by rw [hcb] at h; exact of_decide_eq_true h)] at this
          exact this
        have HNOT : Hid (cb = false → selF a row (formsL.drop (k + 1)) = ro) := fun h => by
          have := HSL.out
          rw [HDK.out, selF, if_neg (by rw [hcb] at h; exact of_decide_eq_false h)] at this
          exact this
        clear hcb
        go_upto_region 10 with fail
        go_cut [81] (fun v wx => v = .bool cb ∧ Hid (∃ n, wx = wr.drewN n))
        case first =>
          as_aux_lemma =>
          obtain ⟨f0, f1, f2, f3, f4⟩ := HGr.out.cells hf
          obtain ⟨r0, r1, r2, r3, r4⟩ := HRW.out.cells
          obtain ⟨a0, a1, a2, a3, a4, a5, a6, a7, a8⟩ := HXr.out.cells
          clear f0 f2 r1 r2 r3 r4 a1 a2 a3 a6 a7 a8 HYES HNOT HDK hf
          have HC2 : Hid (cb = ((f.kind == a.kind) && ((a.kind != 13) || (f.op == a.op)) && ((a.kind != 8) || (f.m == a.m) || row.word.isEmpty))) := by
            show _ = _
            rw [HCB.out, Bool.eq_iff_iff]
            simp [and_assoc, or_assoc]
          cases h1 : (f.kind == a.kind) with
          | false =>
            have HE : Hid (cb = false) := by show _ = _; rw [HC2.out, h1]; rfl
            clear HC2
            go_quiet (fail)
            go_wp2
            go_meet
            exact ⟨by rw [HE.out], _, rfl⟩
          | true =>
          cases h2 : (a.kind != 13) with
          | true =>
            cases h4 : (a.kind != 8) with
            | true =>
              have HE : Hid (cb = true) := by show _ = _; rw [HC2.out, h1, h2, h4]; rfl
              clear HC2
              go_quiet (fail)
              go_wp2
              go_meet
              exact ⟨by rw [HE.out], _, rfl⟩
            | false =>
            cases h5 : (f.m == a.m) with
            | true =>
              have HE : Hid (cb = true) := by show _ = _; rw [HC2.out, h1, h2, h4, h5]; rfl
              clear HC2
              go_quiet (fail)
              go_wp2
              go_meet
              exact ⟨by rw [HE.out], _, rfl⟩
            | false =>
            cases h6 : row.word.isEmpty with
            | true =>
              have HE : Hid (cb = true) := by show _ = _; rw [HC2.out, h1, h2, h4, h5, h6]; rfl
              clear HC2
              go_quiet (fail)
              go_wp2
              go_meet
              exact ⟨by rw [HE.out], _, rfl⟩
            | false =>
              have HE : Hid (cb = false) := by show _ = _; rw [HC2.out, h1, h2, h4, h5, h6]; rfl
              clear HC2
              go_quiet (fail)
              go_wp2
              go_meet
              exact ⟨by rw [HE.out], _, rfl⟩
          | false =>
          cases h3 : (f.op == a.op) with
          | false =>
            have HE : Hid (cb = false) := by show _ = _; rw [HC2.out, h1, h2, h3]; rfl
            clear HC2
            go_quiet (fail)
            go_wp2
            go_meet
            exact ⟨by rw [HE.out], _, rfl⟩
          | true =>
            cases h4 : (a.kind != 8) with
            | true =>
              have HE : Hid (cb = true) := by show _ = _; rw [HC2.out, h1, h2, h3, h4]; rfl
              clear HC2
              go_quiet (fail)
              go_wp2
              go_meet
              exact ⟨by rw [HE.out], _, rfl⟩
            | false =>
            cases h5 : (f.m == a.m) with
            | true =>
              have HE : Hid (cb = true) := by show _ = _; rw [HC2.out, h1, h2, h3, h4, h5]; rfl
              clear HC2
              go_quiet (fail)
              go_wp2
              go_meet
              exact ⟨by rw [HE.out], _, rfl⟩
            | false =>
            cases h6 : row.word.isEmpty with
            | true =>
              have HE : Hid (cb = true) := by show _ = _; rw [HC2.out, h1, h2, h3, h4, h5, h6]; rfl
              clear HC2
              go_quiet (fail)
              go_wp2
              go_meet
              exact ⟨by rw [HE.out], _, rfl⟩
            | false =>
              have HE : Hid (cb = false) := by show _ = _; rw [HC2.out, h1, h2, h3, h4, h5, h6]; rfl
              clear HC2
              go_quiet (fail)
              go_wp2
              go_meet
              exact ⟨by rw [HE.out], _, rfl⟩
        case rest =>
          obtain ⟨hu, n, hw⟩ := hcut
          subst hu
          subst hw
          have HRWq : Hid (RwAt (wr.drewN n) rb row) := HRW.out
          have HGq : Hid (RoAt (wr.drewN n) g) := HGr.out
          have HOq : Hid (Out (fun i => i = rb) W2 (wr.drewN n)) := HOU.out.two (Out.drew _ n)
          generalize wr.drewN n = wq at *
          obtain ⟨f0, f1, f2, f3, f4⟩ := HGq.out.cells hf
          obtain ⟨r0, r1, r2, r3, r4⟩ := HRWq.out.cells
          have rf := HRWq.out.frz
          clear HCB HDK HSL HRW HGr HXr HBr HOU hf
          cases cb with
          | false =>
            have HN : Hid _ := HNOT.out rfl
            clear HYES HNOT f0 f1 f2 f3 f4 r0 r1 r2 r3 r4 rf
            go_wp2
            exact ⟨⟨k + 1, row, by simp, by omega, HRWq.out, HN.out, HOq.out⟩, by simp [intOf]; omega⟩
          | true =>
            have HN : Hid _ := HYES.out rfl
            have HS5 : Hid _ := HRWq.out.set f
            clear HYES HNOT
            go_wp2
            exact ⟨⟨k + 1, f, by simp, by omega, HS5.out, HN.out, Out.put (Out.put (Out.put (Out.put (Out.put (X := fun i => i = rb) HOq.out rfl) rfl) rfl) rfl) rfl⟩, by simp [intOf]; omega⟩
      · have hke : k = 20 := by omega
        have hrr : row = ro := by
          have := HSL.out
          rw [hke] at this
          exact this
        subst hrr
        clear hke HSL HRS HR2 HG2 HX2 HGr HBw2 HOU
        have hrb : rb < wr.heap.size := HRW.out.lt
        have hbx : w.heap.size < wr.heap.size := HXr.out.lt
        have hl5 := pl_len row HRM.out
        have hw20 := word_len20 row HRM.out
        have HOL : Hid (row.of.length = row.pl.length) := row.of_len
        have HFL : Hid (∀ (j : Nat) (p : Pc), row.pl[j]? = some p → row.of[j]? = some p.letter) := fun j p h => by
          show (row.pl.map Pc.letter)[j]? = _
          rw [List.getElem?_map, h]
          rfl
        obtain ⟨r0, r1, r2, r3, r4⟩ := HRW.out.cells
        obtain ⟨a0, a1, a2, a3, a4, a5, a6, a7, a8⟩ := HXr.out.cells
        have HW4 : Hid (RcAt (wr.alloc (.cells a.cells 37)) wr.heap.size a) := heap_alloc_new wr _
        have HB4 : Hid (∀ o, Below wr.heap.size wr (wr.alloc o)) := fun o => (Below.refl _ _).alloc (Nat.le_refl _) o
        unfold Ac.cells str at HW4
        have HTL : Hid (takeL row.pl a row.word = takeL (row.pl.drop 0) a row.word) := by show _ = _; rw [List.drop_zero]
        have HCL : Hid (clrs row.pl a = clrs (row.pl.drop 0) a) := by show _ = _; rw [List.drop_zero]
        generalize hnp : row.pl.length = np at *
        have HNP : Hid (row.pl.length = np) := hnp
        have hzo : (⟨row.of.toArray⟩ : ByteArray).size = np := (show row.of.toArray.size = _ by simp [HOL.out])
        have hzo2 : List.length row.of = np := HOL.out
        clear hnp
        go_upto_region 12 with fail
        go_wp2
        generalize hW4 : World.alloc wr _ = W4
        have HL4 : Hid (RcAt W4 wr.heap.size a) := by show RcAt _ _ _; rw [← hW4]; exact HW4.out
        have HB14 : Hid (Below wr.heap.size wr W4) := by show Below _ _ _; rw [← hW4]; exact HB4.out _
        have HRW4 : Hid (RwAt W4 rb row) := HRW.out.below HB14.out
        have HX4 : Hid (RcAt W4 w.heap.size a) := HXr.out.below HB14.out
        have HBw4 : Hid (Below w.heap.size w W4) := HBr.out.trans (HB14.out.mono (by omega))
        have hl4 : wr.heap.size < W4.heap.size := HL4.out.lt
        clear hW4 HW4 HB4 HB14 HRW HXr HBr r0 r1 r2 r3 r4 a0 a1 a2 a3 a4 a5 a6 a7 a8
        generalize wr.heap.size = lb at *
        clear wr
        go_loopw [8, 9] (fun vs vi wv => ∃ (j : Nat) (lf : Ac) (sj : Bs), vi = .int .i64 j ∧ j ≤ np ∧ vs = .string ⟨sj.toArray⟩ ∧ sj.length ≤ 20 + j * 4000010 ∧ Hid (AcOk lf) ∧ Hid (RcAt wv lb lf) ∧ Hid (takeL row.pl a row.word = takeL (row.pl.drop j) lf sj) ∧ Hid (clrs row.pl a = clrs (row.pl.drop j) lf) ∧ Hid (Out (fun i => i = lb) W4 wv)) (fun _ i _ => np - (intOf i).toNat)
        case atStart => exact ⟨0, a, row.word, rfl, by omega, rfl, by omega, HA.out, HL4.out, HTL.out, HCL.out, Out.refl _ _⟩
        case round =>
          obtain ⟨j, lf, sj, rfl, hj, rfl, hsj, HAO, HLF, HTJ, HCJ, HOJ⟩ := hrel
          have hzj : W4.heap.size ≤ wr.heap.size := HOJ.out.size
          have HRWj : Hid (RwAt wr rb row) := HRW4.out.out HOJ.out (by omega)
          obtain ⟨-, -, r2, -, -⟩ := HRWj.out.cells
          by_cases hlj : j < np
          · obtain ⟨p, hp⟩ : ∃ p, row.pl[j]? = some p := ⟨_, List.getElem?_eq_getElem (by rw [HNP.out]; exact hlj)⟩
            obtain ⟨hkz, hxk⟩ := idx_s (HFL.out j p hp)
            have HTN : Hid _ := HTJ.out.trans (takeL_step hp lf sj)
            have HCN : Hid _ := HCJ.out.trans (clrs_step hp lf)
            have hsl := show_len p lf HAO.out
            have HAN : Hid (AcOk (p.clr lf)) := HAO.out.clr p
            have HTK := rtake_any p lf HAO.out lb wr (fun w' h => HV.out _ (HBw4.out.trans ((HOJ.out.two h).below (by omega) (by intro i hi; omega)))) HLF.out
            have HSH : Hid (∀ e w', RtR p lf lb e w' → e = .returned (.string ⟨(p.show lf).toArray⟩) ∧ RcAt w' lb (p.clr lf)) := fun e w' h => h
            generalize p.letter = lt at *
            generalize p.show lf = sh at *
            generalize p.clr lf = lf' at *
            have hcat1 := cat2 sj [32]
            have hcat2 := cat2 (sj ++ [32]) sh
            clear hp HTJ HCJ
            go_wp2_with fail
            refine HTK.mono ?_
            rintro e w5 ⟨hrt, hO5⟩
            obtain ⟨rfl, hL5⟩ := HSH.out _ _ hrt
            have HL5 : Hid (RcAt w5 lb lf') := hL5
            have HO5 : Hid (Out (fun i => i = lb) W4 w5) := HOJ.out.two hO5
            clear hrt hO5 hL5 HTK HSH HOJ HLF HRWj r2
            go_wp2
            refine ⟨⟨j + 1, lf', sj ++ [32] ++ sh, by simp, by omega, by simp, ?_, HAN.out, HL5.out, HTN.out, HCN.out, HO5.out⟩, by simp [intOf]; omega⟩
            simp only [List.length_append, List.length_cons, List.length_nil]
            omega
          · have hje : j = np := by omega
            subst hje
            have HTE : Hid (takeL row.pl a row.word = sj) := by
              show _ = _
              rw [HTJ.out, List.drop_of_length_le (by rw [HNP.out]; exact Nat.le_refl _)]
              rfl
            have HCE : Hid (clrs row.pl a = lf) := by
              show _ = _
              rw [HCJ.out, List.drop_of_length_le (by rw [HNP.out]; exact Nat.le_refl _)]
              rfl
            have HLZ : Hid (leftF row a = { lf with kind := 0, m := if a.kind = 8 then 0 else lf.m, op := if a.kind = 13 then 0 else lf.op }) := by
              show _ = _
              unfold leftF
              rw [HCE.out]
            have HXj : Hid (RcAt wr w.heap.size a) := HX4.out.out HOJ.out (by omega)
            clear HTJ HCJ HCE HTL HCL HFL HOL hl5 hw20
            obtain ⟨a0, a1, a2, a3, a4, a5, a6, a7, a8⟩ := HXj.out.cells
            obtain ⟨l0, l1, l2, l3, l4, l5, l6, l7, l8⟩ := HLF.out.cells
            have lz := HLF.out.frz
            have HL1 : Hid (RcAt (wr.setCell ⟨lb, 0, none⟩ (.int .i64 0)) lb { lf with kind := 0 }) := HLF.out.set 0 _ rfl
            have HO1 : Hid (Out (fun i => i = lb) W4 (wr.setCell ⟨lb, 0, none⟩ (.int .i64 0))) := Out.put (X := fun i => i = lb) HOJ.out rfl
            have HX1 : Hid (RcAt (wr.setCell ⟨lb, 0, none⟩ (.int .i64 0)) w.heap.size a) := HX4.out.out HO1.out (by omega)
            go_upto_if 107 with fail
            generalize World.setCell wr ⟨lb, 0, none⟩ (.int .i64 0) = W5 at *
            clear a0 a1 a2 a3 a4 a5 a6 a7 a8 l0 l1 l2 l3 l4 l5 l6 l7 l8 lz HXj HLF HOJ HRWj r2 hzo hzo2
            go_cut [] (fun wx => Hid (RcAt wx lb { lf with kind := 0, m := if a.kind = 8 then 0 else lf.m }) ∧ Hid (Out (fun i => i = lb) W4 wx))
            case first =>
              as_aux_lemma =>
              cases h8 : (a.kind == 8) with
              | true =>
                have h8' : a.kind = 8 := by simpa using h8
                have HE : Hid ((if a.kind = 8 then (0 : Int) else lf.m) = 0) := if_pos h8'
                clear h8'
                have l4 := HL1.out.cell 4
                have l4' : W5.cell? ⟨lb, 4, none⟩ = some (.int .i64 lf.m) := l4
                have lz := HL1.out.frz
                clear l4
                go_wp2
                go_meet
                rw [HE.out]
                exact ⟨HL1.out.set 4 _ rfl, Out.put (X := fun i => i = lb) HO1.out rfl⟩
              | false =>
                have h8' : ¬ a.kind = 8 := by simpa using h8
                have HE : Hid ((if a.kind = 8 then (0 : Int) else lf.m) = lf.m) := if_neg h8'
                clear h8'
                go_wp2
                go_meet
                rw [HE.out]
                exact ⟨HL1.out, HO1.out⟩
            case rest =>
              obtain ⟨HL2, HO2⟩ := hcut
              have HL2 : Hid (RcAt wc lb { lf with kind := 0, m := if a.kind = 8 then 0 else lf.m }) := HL2
              have HO2 : Hid (Out (fun i => i = lb) W4 wc) := HO2
              have HX2 : Hid (RcAt wc w.heap.size a) := HX4.out.out HO2.out (by omega)
              clear HL1 HO1 HX1
              generalize wc = W6 at *
              clear wc
              obtain ⟨a0, -, -, -, -, -, -, -, -⟩ := HX2.out.cells
              go_upto_if 111 with fail
              clear a0
              go_cut [] (fun wx => Hid (RcAt wx lb (leftF row a)) ∧ Hid (Out (fun i => i = lb) W4 wx))
              case first =>
                as_aux_lemma =>
                cases h13 : (a.kind == 13) with
                | true =>
                  have h13' : a.kind = 13 := by simpa using h13
                  have HE : Hid (leftF row a = { lf with kind := 0, m := if a.kind = 8 then 0 else lf.m, op := 0 }) := by show _ = _; rw [HLZ.out, if_pos h13']
                  clear h13'
                  have l5 := HL2.out.cell 5
                  have l5' : W6.cell? ⟨lb, 5, none⟩ = some (.int .i64 lf.op) := l5
                  have lz := HL2.out.frz
                  clear l5
                  go_wp2
                  go_meet
                  rw [HE.out]
                  exact ⟨HL2.out.set 5 _ rfl, Out.put (X := fun i => i = lb) HO2.out rfl⟩
                | false =>
                  have h13' : ¬ a.kind = 13 := by simpa using h13
                  have HE : Hid (leftF row a = { lf with kind := 0, m := if a.kind = 8 then 0 else lf.m }) := by show _ = _; rw [HLZ.out, if_neg h13']
                  clear h13'
                  go_wp2
                  go_meet
                  rw [HE.out]
                  exact ⟨HL2.out, HO2.out⟩
              case rest =>
                obtain ⟨HL3, HO3⟩ := hcut
                have HL3 : Hid (RcAt wc lb (leftF row a)) := HL3
                have HX3 : Hid (RcAt wc w.heap.size a) := HX4.out.out HO3 (by omega)
                have HB3 : Hid (Below w.heap.size w wc) := HBw4.out.trans (Out.below HO3 (by omega) (by intro i hi; omega))
                have HQ : Hid (docC row a = if leftF row a ≠ ac0 then 4 else if a.kind = 2 ∧ (a.n < 1 ∨ 9 < a.n) then 20 else if ¬ (inNum a.node = true ∧ inNum a.client = true ∧ inNum a.n = true ∧ inNum a.m = true) ∨ (a.kind = 8 ∧ a.m ≠ 0 ∧ a.m ≠ 1) then 1 else 0) := rfl
                clear HL2 HO2 HX2 HO3 HLZ HX4 HBw4 HRW4 HL4
                generalize wc = W7 at *
                clear wc
                have heq : ∀ W, (Op.equalIn 10000 37 (.agg (leftF row a).cells) (.agg ac0.cells)).run Tryz.prog W = .ok (decide (leftF row a = ac0)) W := fun W => run_eq_rac _ _ W
                obtain ⟨l0, l1, l2, l3, l4, l5, l6, l7, l8⟩ := HL3.out.cells
                obtain ⟨a0, a1, a2, a3, a4, a5, a6, a7, a8⟩ := HX3.out.cells
                unfold Ac.cells str at heq
                clear HL3
                generalize leftF row a = lz at *
                by_cases hlz : lz = ac0
                case neg =>
                  have HD : Hid (df = .error 4) := by show _ = _; rw [HDR.out, HQ.out, if_pos hlz]; rfl
                  have hd : decide (lz = ac0) = false := decide_eq_false hlz
                  rw [hd] at heq
                  clear hlz HQ HDR hd
                  unfold ac0 at heq
                  go_wp2
                  go_ret2
                  exact ⟨by rw [HD.out]; rfl, HB3.out⟩
                have hd : decide (lz = ac0) = true := decide_eq_true hlz
                rw [hd] at heq
                have HQ2 : Hid (docC row a = if a.kind = 2 ∧ (a.n < 1 ∨ 9 < a.n) then 20 else if ¬ (inNum a.node = true ∧ inNum a.client = true ∧ inNum a.n = true ∧ inNum a.m = true) ∨ (a.kind = 8 ∧ a.m ≠ 0 ∧ a.m ≠ 1) then 1 else 0) := by show _ = _; rw [HQ.out, if_neg (fun h => h hlz)]
                clear hlz HQ hd
                unfold ac0 at heq
                go_upto_region 25 with fail
                clear heq l0 l1 l2 l3 l4 l5 l6 l7 l8
                obtain ⟨pb, hpb⟩ : ∃ pb : Bool, pb = decide (a.kind = 2 ∧ (a.n < 1 ∨ 9 < a.n)) := ⟨_, rfl⟩
                have HPB : Hid (pb = decide (a.kind = 2 ∧ (a.n < 1 ∨ 9 < a.n))) := hpb
                clear hpb
                go_cut [128] (fun v wx => v = .bool pb ∧ wx = W7)
                case first =>
                  as_aux_lemma =>
                  by_cases h2 : a.kind = 2
                  · rw [h2] at a0
                    by_cases h3 : a.n < 1
                    · have HE : Hid (pb = true) := by show _ = _; rw [HPB.out]; simp [h2, h3]
                      clear HPB h2
                      go_wp2
                      go_meet
                      exact ⟨by rw [HE.out], rfl⟩
                    · by_cases h4 : 9 < a.n
                      · have HE : Hid (pb = true) := by show _ = _; rw [HPB.out]; simp [h2, h4]
                        clear HPB h2
                        go_wp2
                        go_meet
                        exact ⟨by rw [HE.out], rfl⟩
                      · have HE : Hid (pb = false) := by
                          show _ = _
                          rw [HPB.out, decide_eq_false_iff_not]
                          exact fun h => h.2.elim h3 h4
                        clear HPB h2
                        go_wp2
                        go_meet
                        exact ⟨by rw [HE.out], rfl⟩
                  · have h2b : (a.kind == 2) = false := by simpa using h2
                    have HE : Hid (pb = false) := by show _ = _; rw [HPB.out]; simp [h2]
                    clear HPB h2
                    go_wp2
                    go_meet
                    exact ⟨by rw [HE.out], rfl⟩
                case rest =>
                  obtain ⟨hu, hw⟩ := hcut
                  subst hu
                  subst hw
                  cases pb with
                  | true =>
                    have HD : Hid (df = .error 20) := by
                      have h := of_decide_eq_true (HPB.out.symm)
                      show _ = _
                      rw [HDR.out, HQ2.out, if_pos h]
                      rfl
                    clear HPB HQ2 HDR
                    go_wp2
                    go_ret2
                    exact ⟨by rw [HD.out]; rfl, HB3.out⟩
                  | false =>
                  have HQ3 : Hid (docC row a = if ¬ (inNum a.node = true ∧ inNum a.client = true ∧ inNum a.n = true ∧ inNum a.m = true) ∨ (a.kind = 8 ∧ a.m ≠ 0 ∧ a.m ≠ 1) then 1 else 0) := by
                    have h := of_decide_eq_false (HPB.out.symm)
                    show _ = _
                    rw [HQ2.out, if_neg h]
                  clear HPB HQ2
                  obtain ⟨fb, hfb⟩ : ∃ fb : Bool, fb = decide (¬ (inNum a.node = true ∧ inNum a.client = true ∧ inNum a.n = true ∧ inNum a.m = true) ∨ (a.kind = 8 ∧ a.m ≠ 0 ∧ a.m ≠ 1)) := ⟨_, rfl⟩
                  have HFB : Hid (fb = decide (¬ (inNum a.node = true ∧ inNum a.client = true ∧ inNum a.n = true ∧ inNum a.m = true) ∨ (a.kind = 8 ∧ a.m ≠ 0 ∧ a.m ≠ 1))) := hfb
                  clear hfb
                  go_upto_region 27 with fail
                  generalize wc = W7 at *
                  have HFA := far_any
                  go_cut [161] (fun v wx => v = .bool fb ∧ wx = W7)
                  case first =>
                    as_aux_lemma =>
                    cases n1 : inNum a.node with
                    | false =>
                      have HE : Hid (fb = true) := by show _ = _; rw [HFB.out, decide_eq_true_eq]; exact .inl (fun h => by rw [n1] at h; exact Bool.noConfusion h.1)
                      clear HFB
                      go_wp2_with (go_at_call 53; refine (HFA _ _).mono ?_; simp only [n1]; rintro e w9 ⟨rfl, hw⟩; subst w9)
                      go_meet
                      exact ⟨by rw [HE.out], rfl⟩
                    | true =>
                    cases n2 : inNum a.client with
                    | false =>
                      have HE : Hid (fb = true) := by show _ = _; rw [HFB.out, decide_eq_true_eq]; exact .inl (fun h => by rw [n2] at h; exact Bool.noConfusion h.2.1)
                      clear HFB
                      go_wp2_with (go_at_call 53; refine (HFA _ _).mono ?_; simp only [n1, n2]; rintro e w9 ⟨rfl, hw⟩; subst w9)
                      go_meet
                      exact ⟨by rw [HE.out], rfl⟩
                    | true =>
                    cases n3 : inNum a.n with
                    | false =>
                      have HE : Hid (fb = true) := by show _ = _; rw [HFB.out, decide_eq_true_eq]; exact .inl (fun h => by rw [n3] at h; exact Bool.noConfusion h.2.2.1)
                      clear HFB
                      go_wp2_with (go_at_call 53; refine (HFA _ _).mono ?_; simp only [n1, n2, n3]; rintro e w9 ⟨rfl, hw⟩; subst w9)
                      go_meet
                      exact ⟨by rw [HE.out], rfl⟩
                    | true =>
                    cases n4 : inNum a.m with
                    | false =>
                      have HE : Hid (fb = true) := by show _ = _; rw [HFB.out, decide_eq_true_eq]; exact .inl (fun h => by rw [n4] at h; exact Bool.noConfusion h.2.2.2)
                      clear HFB
                      go_wp2_with (go_at_call 53; refine (HFA _ _).mono ?_; simp only [n1, n2, n3, n4]; rintro e w9 ⟨rfl, hw⟩; subst w9)
                      go_meet
                      exact ⟨by rw [HE.out], rfl⟩
                    | true =>
                    by_cases h8 : a.kind = 8
                    case neg =>
                      have h8b : (a.kind == 8) = false := by simpa using h8
                      have HE : Hid (fb = false) := by show _ = _; rw [HFB.out, decide_eq_false_iff_not]; exact fun h => h.elim (fun h => h ⟨n1, n2, n3, n4⟩) (fun h => h8 h.1)
                      clear HFB h8
                      go_wp2_with (go_at_call 53; refine (HFA _ _).mono ?_; simp only [n1, n2, n3, n4]; rintro e w9 ⟨rfl, hw⟩; subst w9)
                      go_meet
                      exact ⟨by rw [HE.out], rfl⟩
                    rw [h8] at a0
                    by_cases hm0 : a.m = 0
                    case pos =>
                      have hm0f : (a.m != 0) = false := by rw [hm0]; rfl
                      have HE : Hid (fb = false) := by show _ = _; rw [HFB.out, decide_eq_false_iff_not]; exact fun h => h.elim (fun h => h ⟨n1, n2, n3, n4⟩) (fun h => h.2.1 hm0)
                      clear HFB h8 hm0
                      go_wp2_with (go_at_call 53; refine (HFA _ _).mono ?_; simp only [n1, n2, n3, n4]; rintro e w9 ⟨rfl, hw⟩; subst w9)
                      go_meet
                      exact ⟨by rw [HE.out], rfl⟩
                    have hm0b : (a.m != 0) = true := by rw [bne_iff_ne]; exact hm0
                    by_cases hm1 : a.m = 1
                    case pos =>
                      have hm1f : (a.m != 1) = false := by rw [hm1]; rfl
                      have HE : Hid (fb = false) := by show _ = _; rw [HFB.out, decide_eq_false_iff_not]; exact fun h => h.elim (fun h => h ⟨n1, n2, n3, n4⟩) (fun h => h.2.2 hm1)
                      clear HFB h8 hm0 hm1
                      go_wp2_with (go_at_call 53; refine (HFA _ _).mono ?_; simp only [n1, n2, n3, n4]; rintro e w9 ⟨rfl, hw⟩; subst w9)
                      go_meet
                      exact ⟨by rw [HE.out], rfl⟩
                    have hm1b : (a.m != 1) = true := by rw [bne_iff_ne]; exact hm1
                    have HE : Hid (fb = true) := by show _ = _; rw [HFB.out, decide_eq_true_eq]; exact .inr ⟨h8, hm0, hm1⟩
                    clear HFB h8 hm0 hm1
                    go_wp2_with (go_at_call 53; refine (HFA _ _).mono ?_; simp only [n1, n2, n3, n4]; rintro e w9 ⟨rfl, hw⟩; subst w9)
                    go_meet
                    exact ⟨by rw [HE.out], rfl⟩
                  case rest =>
                    obtain ⟨hu, hw⟩ := hcut
                    subst hu
                    subst hw
                    clear a0 a1 a2 a3 a4 a5 a6 a7 a8 HX3
                    cases fb with
                    | true =>
                      have HD : Hid (df = .error 1) := by
                        have h := of_decide_eq_true (HFB.out.symm)
                        show _ = _
                        rw [HDR.out, HQ3.out, if_pos h]
                        rfl
                      clear HFB HQ3 HDR
                      go_wp2
                      go_ret2
                      exact ⟨by rw [HD.out]; rfl, HB3.out⟩
                    | false =>
                    have HD3 : Hid (df = if 4096 < sj.length then .error 3 else .ok sj) := by
                      have h := of_decide_eq_false (HFB.out.symm)
                      show _ = _
                      rw [HDR.out, HQ3.out, if_neg h, if_neg (fun h => h rfl), HTE.out]
                    clear HFB HQ3 HDR
                    by_cases h4 : 4096 < sj.length
                    · have HD : Hid (df = .error 3) := by show _ = _; rw [HD3.out, if_pos h4]
                      clear HD3
                      go_wp2
                      go_ret2
                      exact ⟨by rw [HD.out]; rfl, HB3.out⟩
                    · have HD : Hid (df = .ok sj) := by show _ = _; rw [HD3.out, if_neg h4]
                      clear HD3
                      go_wp2
                      go_ret2
                      exact ⟨by rw [HD.out]; rfl, HB3.out⟩
end Go.Proofs.YtbckogojnjmjcaaGreatDoor
