/-
  The document's act of a line.
-/
import Derived.Test.YtbckogojnjmjcaaGreatDoorR3
import Derived.Test.YtbckogojnjmjcaaGreatDoorTw
namespace Go.Proofs.YtbckogojnjmjcaaGreatDoor
open Go.RowKit Go.Shelf

theorem results_Rb {fn : Func} {t t2 : Tmp} (h : fn.results = #[.cell t 37, .tmp t2]) (tmps : Array Value) (w : World) (B : Nat) {x0 x1 x2 x3 x4 x5 x6 x7 x8 y : Value} (ht : tmps.getD t undef = .pointer (some ⟨B, 0, none⟩)) (hy : tmps.getD t2 undef = y) (hb : w.heap[B]? = some (.cells #[x0, x1, x2, x3, x4, x5, x6, x7, x8] 37 (0, 0))) :
    (results fn tmps).run Tryz.prog w = .ok (.tuple #[.agg #[x0, x1, x2, x3, x4, x5, x6, x7, x8], y]) w := by
  obtain ⟨⟨c0, c1, c2, c3, c4, c5, c6, c7, c8⟩, -⟩ := cells9 hb
  have ht' : tmps[t]?.getD undef = .pointer (some ⟨B, 0, none⟩) := by rw [← Array.getD_eq_getD_getElem?]; exact ht
  have hy' : tmps[t2]?.getD undef = y := by rw [← Array.getD_eq_getD_getElem?]; exact hy
  simp [results, h, ht', hy', asAddr, loadVar, c0, c1, c2, c3, c4, c5, c6, c7, c8, go_sem]
/-- The act of words, by a part of the table. -/
def parseF (fs : List Fo) : List Bs → Except Nat Ac
  | [] => .error 20
  | wd :: r => match findF fs wd with
    | none => .error 20
    | some f => if r.length ≠ f.pl.length then .error 21 else fill f.pl r f.says
theorem parseF_all (ws : List Bs) : parseW ws = parseF formsL ws := by cases ws <;> rfl
theorem parseF_nil (fs gs : List Fo) : parseF fs [] = parseF gs [] := rfl
theorem parseF_skip {f : Fo} {fs : List Fo} {wd : Bs} {r : List Bs} (h : f.word ≠ wd) : parseF (f :: fs) (wd :: r) = parseF fs (wd :: r) := by
  simp only [parseF, findF]
  rw [if_neg h]
theorem parseF_here {f : Fo} {fs : List Fo} {wd : Bs} {r : List Bs} (h : f.word = wd) : parseF (f :: fs) (wd :: r) = if r.length ≠ f.pl.length then .error 21 else fill f.pl r f.says := by
  simp only [parseF, findF]
  rw [if_pos h]
theorem word_len20' : ∀ f ∈ formsL, f.word.length ≤ 20 := by
  intro f hf
  simp only [formsL, List.mem_cons, List.not_mem_nil, or_false] at hf
  rcases hf with rfl | rfl | rfl | rfl | rfl | rfl | rfl | rfl | rfl | rfl | rfl | rfl | rfl | rfl | rfl | rfl | rfl | rfl | rfl | rfl <;> decide
set_option maxRecDepth 100000 in
set_option maxHeartbeats 8000000 in
theorem rparseAct_any (s : Bs) (hl : s.length ≤ 1000000) (w : World) : Calls Tryz.prog 15 #[.string ⟨s.toArray⟩] w fun e w' => PaX s e ∧ Below w.heap.size w w' := by
  have HB0 : Hid (Below w.heap.size w (w.alloc (.cells ac0.cells 37))) := (Below.refl _ _).alloc (Nat.le_refl _) _
  have HX0 : Hid ((w.alloc (.cells ac0.cells 37)).heap[w.heap.size]? = some (.cells ac0.cells 37 (0, 0))) := heap_alloc_new w _
  have HRW := rwords_t s hl (w.alloc (.cells ac0.cells 37))
  have HEND : Hid (∀ (w' : World), Below (w.heap.size + 1) (w.alloc (.cells ac0.cells 37)) w' → w'.heap[w.heap.size]? = some (.cells ac0.cells 37 (0, 0)) ∧ Below w.heap.size w w') := fun w' h => ⟨(h.block _ (by omega)).trans HX0.out, HB0.out.trans (h.mono (by omega))⟩
  have HOUT : Hid (∀ (w' : World) y0 y1 y2 y3 y4 y5 y6 y7 y8, Below w.heap.size w w' → Below w.heap.size w (((((((((w'.setCell ⟨w.heap.size, 0, none⟩ y0).setCell ⟨w.heap.size, 1, none⟩ y1).setCell ⟨w.heap.size, 2, none⟩ y2).setCell ⟨w.heap.size, 3, none⟩ y3).setCell ⟨w.heap.size, 4, none⟩ y4).setCell ⟨w.heap.size, 5, none⟩ y5).setCell ⟨w.heap.size, 6, none⟩ y6).setCell ⟨w.heap.size, 7, none⟩ y7).setCell ⟨w.heap.size, 8, none⟩ y8)) := fun w' y0 y1 y2 y3 y4 y5 y6 y7 y8 h => h.trans ((out9 (X := fun i => i = w.heap.size) rfl y0 y1 y2 y3 y4 y5 y6 y7 y8).below h.size (fun i hi => by omega))
  unfold ac0 Ac.cells str at HX0 HB0 HRW HEND
  rw [World.size_alloc] at HRW
  go_enter Tryz.func15, Tryz.ntmps15
  go_wp2_with fail
  refine HRW.mono ?_
  rintro e w1 ⟨⟨va, vc, kk, ws, hWT, hS, hwl, rfl⟩, hB1⟩
  have HX1 : Hid _ := HEND.out w1 hB1
  have HB1 : Hid (Below (w.heap.size + 1) _ w1) := hB1
  have hz1 : w.heap.size + 1 ≤ w1.heap.size := by have := hB1.size; simpa using this
  obtain ⟨⟨r0, r1, r2, r3, r4, r5, r6, r7, r8⟩, rf⟩ := cells9 HX1.out.1
  rcases hWT with ⟨h1, rfl, rfl⟩ | ⟨h1, h2, rfl, rfl⟩ | ⟨h1, h2, rfl⟩
  · clear hB1 HRW hS
    go_wp2
    refine bodyPost_ret (results_Rb rfl _ _ w.heap.size rfl rfl (set9 HX1.out.1 _ _ _ _ _ _ _ _ _)) rfl ?_
    exact ⟨⟨.error 3, .inl ⟨h1, rfl⟩, rfl⟩, HOUT.out _ _ _ _ _ _ _ _ _ _ HX1.out.2⟩
  · clear hB1 HRW hS
    go_wp2
    refine bodyPost_ret (results_Rb rfl _ _ w.heap.size rfl rfl (set9 HX1.out.1 _ _ _ _ _ _ _ _ _)) rfl ?_
    exact ⟨⟨.error 4, .inr (.inl ⟨h1, h2, rfl⟩), rfl⟩, HOUT.out _ _ _ _ _ _ _ _ _ _ HX1.out.2⟩
  have HPA : Hid (∀ r, parseF formsL ws = r → PaR s r) := fun r h => .inr (.inr ⟨h1, _, h2, ((parseF_all ws).trans h).symm⟩)
  have HWL : Hid (∀ x ∈ ws, x.length ≤ 1000000) := fun x hx => by have := word_len h2 x hx; omega
  have HSR : Hid (SRd w1 (.slice va ws.length vc) ws) := hS
  have HRO := rrows_any w1
  clear h1 h2 hS hB1 HRW r0 r1 r2 r3 r4 r5 r6 r7 r8 rf
  generalize hwn : ws.length = nw at *
  have HNW : Hid (ws.length = nw) := hwn
  clear hwn
  go_wp2_with fail
  refine HRO.mono ?_
  rintro e w2 ⟨⟨g, rfl, hG⟩, hB2⟩
  have HG : Hid (RoAt w2 g) := hG
  have hg2 := hG.lt
  have hz2 : w1.heap.size ≤ w2.heap.size := hB2.size
  have HX2 : Hid _ := HEND.out w2 (HB1.out.trans (hB2.mono (by omega)))
  have HSR2 : Hid (SRd w2 (.slice va ws.length vc) ws) := by rw [HNW.out]; exact HSR.out.below hB2
  clear hG hB2 HRO HSR HX1 HB1
  go_wp2
  go_loopw [7] (fun i wr => ∃ k : Nat, i = .int .i64 k ∧ k ≤ 20 ∧ Hid (Below w2.heap.size w2 wr) ∧ Hid (parseF formsL ws = parseF (formsL.drop k) ws)) (fun i _ => 20 - (intOf i).toNat)
  case atStart => exact ⟨0, rfl, by omega, Below.refl _ _, by show _ = _; rw [List.drop_zero]⟩
  case round =>
    obtain ⟨k, rfl, hk, HBR, HPF⟩ := hrel
    have hzr : w2.heap.size ≤ wr.heap.size := HBR.out.size
    have HXr : Hid _ := (HBR.out.block _ (by omega)).trans HX2.out.1
    have HBW : Hid (Below w.heap.size w wr) := HX2.out.2.trans (HBR.out.mono (by omega))
    have HGr : Hid (RoAt wr g) := HG.out.below HBR.out
    have HSRr : Hid (SRd wr (.slice va ws.length vc) ws) := HSR2.out.below HBR.out
    have HBQ : Hid (∀ n, Below w2.heap.size w2 (wr.drewN n)) := fun n => HBR.out.trans ((drewB wr n).mono hzr)
    have HWQ : Hid (∀ n, Below w.heap.size w (wr.drewN n)) := fun n => HBW.out.trans ((drewB wr n).mono HBW.out.size)
    obtain ⟨⟨r0, r1, r2, r3, r4, r5, r6, r7, r8⟩, rf⟩ := cells9 HXr.out
    by_cases hlt : k < 20
    case neg =>
      have hke : k = 20 := by omega
      have HR : Hid (parseF formsL ws = .error 20) := by
        show _ = _
        rw [HPF.out, hke]
        cases ws <;> rfl
      clear hke
      go_wp2
      refine bodyPost_ret (results_Rb rfl _ _ w.heap.size rfl rfl (set9 HXr.out _ _ _ _ _ _ _ _ _)) rfl ?_
      exact ⟨⟨.error 20, HPA.out _ HR.out, rfl⟩, HOUT.out _ _ _ _ _ _ _ _ _ _ HBW.out⟩
    obtain ⟨f, hf⟩ : ∃ f, formsL[k]? = some f := ⟨_, List.getElem?_eq_getElem (by rw [formsL_length]; exact hlt)⟩
    have HDK : Hid (formsL.drop k = f :: formsL.drop (k + 1)) := by
      obtain ⟨hk1, hk2⟩ := List.getElem?_eq_some_iff.1 hf
      show _ = _
      rw [List.drop_eq_getElem_cons hk1, hk2]
    have hfm : f ∈ formsL := List.mem_of_getElem? hf
    obtain ⟨f0, f1, f2, f3, f4⟩ := HGr.out.cells hf
    cases ws with
    | nil =>
      have hn0 : nw = 0 := HNW.out.symm
      subst hn0
      have HP2 : Hid (parseF formsL [] = parseF (formsL.drop (k + 1)) []) := rfl
      clear hf hfm r0 r1 r2 r3 r4 r5 r6 r7 r8 rf
      go_wp2
      go_quiet (fail)
      go_wp2
      go_roundw
      case rel => exact ⟨k + 1, by simp, by omega, HBQ.out _, HP2.out⟩
      case measure => simp [intOf]; omega
    | cons wd r =>
      have HNR : Hid (nw = r.length + 1) := HNW.out.symm
      have hnr := HNR.out
      have hz0 : 0 < nw := by omega
      have hz0b : ((nw : Int) == 0) = false := by rw [beq_eq_false_iff_ne]; omega
      clear hnr
      obtain ⟨b0, off0, rfl, hb0, hc0⟩ := HSRr.out.at (k := 0) (by simp)
      have hcw0 : wr.cell? ⟨b0, off0, none⟩ = some (.string ⟨wd.toArray⟩) := hc0
      cases hq : (f.word == wd) with
      | false =>
        have hqn : f.word ≠ wd := by simpa using hq
        have HP2 : Hid (parseF formsL (wd :: r) = parseF (formsL.drop (k + 1)) (wd :: r)) := by show _ = _; rw [HPF.out, HDK.out, parseF_skip hqn]
        clear hf hfm hqn r0 r1 r2 r3 r4 r5 r6 r7 r8 rf hc0
        generalize f.word = fw at *
        go_wp2
        go_quiet (fail)
        go_wp2
        go_roundw
        case rel => exact ⟨k + 1, by simp, by omega, HBQ.out _, HP2.out⟩
        case measure => simp [intOf]; omega
      | true =>
      have hqn : f.word = wd := by simpa using hq
      have HP2 : Hid (parseF formsL (wd :: r) = if r.length ≠ f.pl.length then .error 21 else fill f.pl r f.says) := by show _ = _; rw [HPF.out, HDK.out, parseF_here hqn]
      have hl5 := pl_len f hfm
      have hzo : (⟨f.of.toArray⟩ : ByteArray).size = f.of.length := by show f.of.toArray.size = _; simp
      have HOL : Hid (f.of.length = f.pl.length) := f.of_len
      clear hc0
      by_cases hne : r.length = f.pl.length
      case neg =>
        have HR : Hid (parseF formsL (wd :: r) = .error 21) := by show _ = _; rw [HP2.out, if_pos hne]
        have hnr := HNR.out
        have hsb : IntKind.i64.wrap ((nw : Int) - 1) = (r.length : Int) := by rw [IntKind.wrap_i64]; omega
        have hsb2 : (nw : Int) - 1 = (r.length : Int) := by omega
        have hnd : ((r.length : Int) != (f.of.length : Int)) = true := by rw [bne_iff_ne, HOL.out]; omega
        clear hf hfm hqn hnr HP2 HPF HDK
        generalize f.word = fw at *
        generalize f.of = fo at *
        generalize r.length = rl at *
        clear hne
        go_wp2
        go_quiet (fail)
        go_wp2
        refine bodyPost_ret (results_Rb rfl _ _ w.heap.size rfl rfl (set9 HXr.out _ _ _ _ _ _ _ _ _)) rfl ?_
        exact ⟨⟨.error 21, HPA.out _ HR.out, rfl⟩, HOUT.out _ _ _ _ _ _ _ _ _ _ (HWQ.out _)⟩
      have HR0 : Hid (parseF formsL (wd :: r) = fill f.pl r f.says) := by show _ = _; rw [HP2.out, if_neg (fun h => h hne)]
      have hnr := HNR.out
      obtain ⟨np, hnp⟩ : ∃ np, np = f.pl.length := ⟨_, rfl⟩
      have HNP : Hid (f.pl.length = np) := hnp.symm
      have HRP : Hid (r.length = np) := hne.trans hnp.symm
      have HOP : Hid (f.of.length = np) := HOL.out.trans hnp.symm
      have hp5 : np ≤ 5 := by omega
      have hsb : IntKind.i64.wrap ((nw : Int) - 1) = (np : Int) := by rw [IntKind.wrap_i64]; omega
      have hsb2 : (nw : Int) - 1 = (np : Int) := by omega
      have HNW2 : Hid (nw = np + 1) := by show _ = _; omega
      have hzp : (⟨f.of.toArray⟩ : ByteArray).size = np := hzo.trans HOP.out
      have hlp : List.length f.of = np := HOP.out
      have HFL : Hid (∀ (j : Nat) (p : Pc), f.pl[j]? = some p → f.of[j]? = some p.letter) := fun j p h => by
        show (f.pl.map Pc.letter)[j]? = _
        rw [List.getElem?_map, h]
        rfl
      clear hnr hnp hne hzo HOL hqn HP2 HPF HDK hl5
      have hw0 : f.word = wd := by simpa using hq
      rw [hw0] at f0 hq
      clear hw0
      clear r0 r1 r2 r3 r4 r5 r6 r7 r8 rf
      go_wp2
      go_quiet (fail)
      go_wp2
      have HGq : Hid (RoAt (wr.drewN nq) g) := HGr.out.below (drewB wr nq)
      have HSRq : Hid (SRd (wr.drewN nq) (.slice (some ⟨b0, off0, none⟩) (wd :: r).length vc) (wd :: r)) := HSRr.out.below (drewB wr nq)
      have HXq : Hid ((wr.drewN nq).heap[w.heap.size]? = _) := HXr.out
      have HWq : Hid (Below w.heap.size w (wr.drewN nq)) := HWQ.out nq
      have hzq : w2.heap.size ≤ (wr.drewN nq).heap.size := hzr
      have hb0q : b0 < (wr.drewN nq).heap.size := hb0
      have hgq : g < (wr.drewN nq).heap.size := HGq.out.lt
      obtain ⟨f0, f1, f2, f3, f4⟩ := HGq.out.cells hf
      generalize wr.drewN nq = wq at *
      clear HXr HBW HGr HSRr HBQ HWQ HBR hzr
      have HA0 : Hid ((wq.alloc (.cells ac0.cells 37)).heap[wq.heap.size]? = some (.cells ac0.cells 37 (0, 0))) := heap_alloc_new wq _
      unfold ac0 Ac.cells str at HA0
      obtain ⟨⟨a0, a1, a2, a3, a4, a5, a6, a7, a8⟩, af⟩ := cells9 HA0.out
      go_region_held3 (fun V => V.cell? ⟨g, k * 5 + 1, none⟩ = some (.int .i64 f.kind) ∧ V.cell? ⟨g, k * 5 + 3, none⟩ = some (.int .i64 f.m) ∧ V.cell? ⟨g, k * 5 + 4, none⟩ = some (.int .i64 f.op)) (go_keep) (fail)
      generalize hW3 : World.drew _ = W3
      have HA3 : Hid (RcAt W3 wq.heap.size f.says) := by
        show RcAt _ _ _
        rw [← hW3]
        exact heap_alloc_new wq _
      have HB3 : Hid (Below wq.heap.size wq W3) := by
        show Below _ _ _
        rw [← hW3]
        exact ((Below.refl _ _).alloc (Nat.le_refl _) _).drew
      clear hW3 a0 a1 a2 a3 a4 a5 a6 a7 a8 af HA0 f0 f1 f3 f4 f2
      have HRL : Hid (∀ j, j < np → (r.getD j []).length ≤ 1000000) := fun j hj => HWL.out _ (.tail _ (by rw [List.getD_eq_getElem?_getD, List.getElem?_eq_getElem (by rw [HRP.out]; exact hj)]; exact List.getElem_mem _))
      have HRC : Hid (∀ j, j < np → wq.cell? ⟨b0, off0 + (j + 1), none⟩ = some (.string ⟨(r.getD j []).toArray⟩)) := fun j hj => by
        obtain ⟨b', o', hbe, -, hc⟩ := HSRq.out.at (k := j + 1) (by rw [List.length_cons, HRP.out]; omega)
        cases hbe
        exact hc
      have HFO : Hid (∀ j, j < np → ∃ p, f.pl[j]? = some p) := fun j hj => ⟨_, List.getElem?_eq_getElem (by rw [HNP.out]; exact hj)⟩
      have HF2 : Hid (wq.cell? ⟨g, k * 5 + 2, none⟩ = some (.string ⟨f.of.toArray⟩)) := (HGq.out.cells hf).2.2.1
      have HE0 : Hid (fill f.pl r f.says = fill (f.pl.drop 0) (r.drop 0) f.says) := by show _ = _; rw [List.drop_zero, List.drop_zero]
      have HED : Hid (∀ a, fill (f.pl.drop np) (r.drop np) a = .ok a) := fun a => by
        rw [List.drop_of_length_le (by rw [HNP.out]; exact Nat.le_refl _)]
        cases List.drop np r <;> rfl
      have HES : Hid (∀ (j : Nat) (p : Pc) (a : Ac), j < np → f.pl[j]? = some p → fill (f.pl.drop j) (r.drop j) a = match p.rd a (r.getD j []) with | .error e => .error e | .ok a' => fill (f.pl.drop (j + 1)) (r.drop (j + 1)) a') := fun j p a hj hp => fill_step hp (by rw [List.getD_eq_getElem?_getD, List.getElem?_eq_getElem (by rw [HRP.out]; exact hj)]; rfl) a
      have hnp1 : nw = np + 1 := HNW2.out
      have hwq : w.heap.size < wq.heap.size := by omega
      clear hf hfm HSRq HGq hq hnp1 HNW HNR
      generalize f.of = fo at *
      go_wp2
      go_loopw [9] (fun i wv => ∃ (j : Nat) (ac : Ac), i = .int .i64 j ∧ j ≤ np ∧ Hid (RcAt wv wq.heap.size ac) ∧ Hid (fill f.pl r f.says = fill (f.pl.drop j) (r.drop j) ac) ∧ Hid (Below wq.heap.size wq wv)) (fun i _ => np - (intOf i).toNat)
      case atStart => exact ⟨0, f.says, rfl, by omega, HA3.out, HE0.out, HB3.out⟩
      case round =>
        obtain ⟨j, ac, rfl, hj, HAC, HFI, HBV⟩ := hrel
        have hzv : wq.heap.size ≤ wr.heap.size := HBV.out.size
        have HXv : Hid (wr.heap[w.heap.size]? = _) := (HBV.out.block _ (by omega)).trans HXq.out
        have HWv : Hid (Below w.heap.size w wr) := HWq.out.trans (HBV.out.mono (by omega))
        have haB := HAC.out.lt
        have g2 := (HBV.out.cell (p := ⟨g, k * 5 + 2, none⟩) hgq).trans HF2.out
        obtain ⟨⟨r0, r1, r2, r3, r4, r5, r6, r7, r8⟩, rf⟩ := cells9 HXv.out
        by_cases hlj : j < np
        · obtain ⟨p, hp⟩ := HFO.out j hlj
          obtain ⟨hkz, hxk⟩ := idx_s (HFL.out j p hp)
          have hcw := (HBV.out.cell (p := ⟨b0, off0 + (j + 1), none⟩) hb0q).trans (HRC.out j hlj)
          have hsl := HRL.out j hlj
          have HFS : Hid _ := HES.out j p ac hlj hp
          have hbl : b0 < wr.heap.size := by omega
          have hgl : g < wr.heap.size := by omega
          have hj1 : IntKind.i64.wrap ((j : Int) + 1) = (j : Int) + 1 := by rw [IntKind.wrap_i64]; omega
          have hjn : ((j : Int) + 1).toNat = j + 1 := by omega
          have hj0 : 0 ≤ (j : Int) + 1 := by omega
          have hjlt : (j : Int) + 1 < (nw : Int) := by have := HNW2.out; omega
          generalize r.getD j [] = sk at *
          have HCA : Hid (∀ n, Calls Tryz.prog 48 #[.pointer (some ⟨wq.heap.size, 0, none⟩), .int .u8 (p.letter.toNat : Int), .string ⟨sk.toArray⟩] (wr.drewN n) fun e w' => (RsR p ac sk wq.heap.size e w' ∧ Hid (Out (fun i => i = wq.heap.size) wr w')) ∧ w'.cell? ⟨g, k * 5 + 2, none⟩ = some (.string ⟨fo.toArray⟩) ∧ w'.cell? ⟨b0, off0 + (j + 1), none⟩ = some (.string ⟨sk.toArray⟩)) := fun n => by
            refine (rset_any p ac sk hsl wq.heap.size (wr.drewN n) HAC.out).mono ?_
            rintro e w' ⟨h1, h2⟩
            have hO : Out (fun i => i = wq.heap.size) wr w' := (Out.drew _ n).two h2
            have hc : ∀ B q, B ≠ wq.heap.size → B < wr.heap.size → w'.cell? ⟨B, q, none⟩ = wr.cell? ⟨B, q, none⟩ := fun B q h3 h4 => by
              have := hO.block B h4 h3
              simp only [World.cell?, this]
            exact ⟨⟨h1, hO⟩, (hc _ _ (by omega) hgl).trans g2, (hc _ _ (by omega) hbl).trans hcw⟩
          unfold RsR at HCA
          cases hrd : p.rd ac sk with
          | error kk =>
            have hkk := rd_err hrd
            have HFE : Hid (fill f.pl r f.says = .error kk) := by show _ = _; rw [HFI.out, HFS.out, hrd]
            have hkd : ((kk : Int) != 0) = true := by rw [bne_iff_ne]; omega
            simp only [hrd] at HCA
            clear HFS hrd hkk hp r0 r1 r2 r3 r4 r5 r6 r7 r8 rf
            generalize p.letter = lt at *
            go_wp2
            go_region_held3 (fun V => V.cell? ⟨g, k * 5 + 2, none⟩ = some (.string ⟨fo.toArray⟩) ∧ V.cell? ⟨b0, off0 + (j + 1), none⟩ = some (.string ⟨sk.toArray⟩)) (go_keep) ((go_at_call 48; refine (HCA.out _).mono ?_; rintro e w6 ⟨⟨⟨rfl, hA6⟩, HO6⟩, q0, q1⟩; have HX6 : Hid (w6.heap[w.heap.size]? = _) := (HO6.out.block _ (by omega) (by omega)).trans HXv.out; obtain ⟨⟨r0, r1, r2, r3, r4, r5, r6, r7, r8⟩, rf⟩ := cells9 HX6.out))
            have HW6 : Hid (Below w.heap.size w w6) := HWv.out.trans (HO6.out.below (by omega) (by intro i hi; omega))
            clear hA6 HO6
            go_wp2
            refine bodyPost_ret (results_Rb rfl _ _ w.heap.size rfl rfl (set9 HX6.out _ _ _ _ _ _ _ _ _)) rfl ?_
            exact ⟨⟨.error kk, HPA.out _ (HR0.out.trans HFE.out), rfl⟩, HOUT.out _ _ _ _ _ _ _ _ _ _ HW6.out⟩
          | ok ac' =>
            have HFE : Hid (fill f.pl r f.says = fill (f.pl.drop (j + 1)) (r.drop (j + 1)) ac') := by show _ = _; rw [HFI.out, HFS.out, hrd]
            simp only [hrd] at HCA
            clear HFS hrd hp r0 r1 r2 r3 r4 r5 r6 r7 r8 rf
            generalize p.letter = lt at *
            go_wp2
            go_region_held3 (fun V => V.cell? ⟨g, k * 5 + 2, none⟩ = some (.string ⟨fo.toArray⟩) ∧ V.cell? ⟨b0, off0 + (j + 1), none⟩ = some (.string ⟨sk.toArray⟩)) (go_keep) ((go_at_call 48; refine (HCA.out _).mono ?_; rintro e w6 ⟨⟨⟨rfl, hA6⟩, HO6⟩, q0, q1⟩))
            have HA6 : Hid (RcAt w6 wq.heap.size ac') := hA6
            have HB6 : Hid (Below wq.heap.size wq w6) := HBV.out.trans (HO6.out.below (by omega) (by intro i hi; omega))
            clear hA6 HO6
            go_wp2
            go_roundw
            case rel => exact ⟨j + 1, ac', by simp, by omega, HA6.out, HFE.out, HB6.out⟩
            case measure => simp [intOf]; omega
        · have hje : j = np := by omega
          subst hje
          have HFE : Hid (fill f.pl r f.says = .ok ac) := by show _ = _; rw [HFI.out, HED.out]
          obtain ⟨a0, a1, a2, a3, a4, a5, a6, a7, a8⟩ := HAC.out.cells
          go_wp2
          refine bodyPost_ret (results_Rb rfl _ _ w.heap.size rfl rfl (set9 HXv.out _ _ _ _ _ _ _ _ _)) rfl ?_
          exact ⟨⟨.ok ac, HPA.out _ (HR0.out.trans HFE.out), rfl⟩, HOUT.out _ _ _ _ _ _ _ _ _ _ HWv.out⟩
end Go.Proofs.YtbckogojnjmjcaaGreatDoor
