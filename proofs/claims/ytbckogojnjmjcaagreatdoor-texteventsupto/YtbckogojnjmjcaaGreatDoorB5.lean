/-
  The act of a line.
-/
import Derived.Test.YtbckogojnjmjcaaGreatDoorB4
namespace Go.Proofs.YtbckogojnjmjcaaGreatDoor
open Go.RowKit Go.Shelf

def PaE : Except Nat Ac → Ending
  | .ok a => .returned (.tuple #[.agg a.cells, .int .i64 0])
  | .error k => .returned (.tuple #[.agg ac0.cells, .int .i64 (k : Int)])
/-- What ParseAct answers. -/
def PaX (s : Bs) (e : Ending) : Prop := ∃ r, PaR s r ∧ e = PaE r
/-- A place's functions, one by one. -/
structure PcF (p : Pc) (x0 x1 x2 : Value) : Prop where
  fns : p.fns = [x0, x1, x2]
  s0 : ∀ (a : Addr) (W : World), (store a x0).run Tryz.prog W = stored Tryz.prog W a x0 .plain
  s1 : ∀ (a : Addr) (W : World), (store a x1).run Tryz.prog W = stored Tryz.prog W a x1 .plain
  s2 : ∀ (a : Addr) (W : World), (store a x2).run Tryz.prog W = stored Tryz.prog W a x2 .plain
theorem Pc.parts (p : Pc) : ∃ x0 x1 x2, PcF p x0 x1 x2 := by
  cases p <;> exact ⟨_, _, _, rfl, fun a W => run_store _ _ _ _ _ rfl, fun a W => run_store _ _ _ _ _ rfl, fun a W => run_store _ _ _ _ _ rfl⟩
theorem Out.two {X : Nat → Prop} {a b c : World} (h : Out X a b) (k : Out X b c) : Out X a c := h.trans k (fun _ h _ => h)
theorem fill_step {pl : List Pc} {ws : List Bs} {k : Nat} {p : Pc} {s : Bs} (hp : pl[k]? = some p) (hs : ws[k]? = some s) (a : Ac) : fill (pl.drop k) (ws.drop k) a = match p.rd a s with | .error e => .error e | .ok a' => fill (pl.drop (k + 1)) (ws.drop (k + 1)) a' := by
  obtain ⟨h1, h2⟩ := List.getElem?_eq_some_iff.1 hp
  obtain ⟨h3, h4⟩ := List.getElem?_eq_some_iff.1 hs
  rw [List.drop_eq_getElem_cons h1, List.drop_eq_getElem_cons h3, h2, h4, fill]
  rfl
theorem rd_err {p : Pc} {a : Ac} {s : Bs} {e : Nat} (h : p.rd a s = .error e) : e = 20 ∨ e = 22 := by
  cases p <;> simp only [Pc.rd] at h
  all_goals first
    | (cases h; done)
    | (split at h <;> cases h; first | exact .inl rfl | exact .inr rfl)
theorem pl_len : ∀ f ∈ formsL, f.pl.length ≤ 5 := by
  intro f hf
  simp only [formsL, List.mem_cons, List.not_mem_nil, or_false] at hf
  rcases hf with rfl | rfl | rfl | rfl | rfl | rfl | rfl | rfl | rfl | rfl | rfl | rfl | rfl | rfl | rfl | rfl | rfl | rfl | rfl | rfl <;> decide
theorem word_len {s : Bs} {ws : List Bs} (h : Ln s ws) : ∀ x ∈ ws, x.length ≤ s.length := by
  induction h with
  | nil => intro x hx; cases hx
  | blank _ ih => intro x hx; have := ih x hx; simp; omega
  | @word t w r ws h1 h2 h3 ih =>
    intro x hx
    rw [List.length_append]
    rcases List.mem_cons.1 hx with rfl | hx
    · rcases h1 with ⟨rfl, -, -⟩ | rfl
      · omega
      · have := (flat_len x).1; simp; omega
    · have := ih x hx; omega
/-- A block that is there, and stays as memory is made. -/
theorem stays {W : World} {R : Nat} (h : R < W.heap.size) : (∀ (o : Obj) (j : Nat), (W.alloc o).cell? ⟨R, j, none⟩ = W.cell? ⟨R, j, none⟩) ∧ (∀ (o : Obj) (j : Nat), (W.alloc o).frozen? ⟨R, j, none⟩ = W.frozen? ⟨R, j, none⟩) :=
  ⟨fun o j => ((Below.refl _ W).alloc (Nat.le_refl _) o).cell (p := ⟨R, j, none⟩) h, fun o j => ((Below.refl _ W).alloc (Nat.le_refl _) o).frozen (p := ⟨R, j, none⟩) h⟩
theorem SRd.at {W : World} {a : Option Addr} {c : Nat} {l : List Bs} {k : Nat} (h : SRd W (.slice a l.length c) l) (hk : k < l.length) : ∃ b off, a = some ⟨b, off, none⟩ ∧ b < W.heap.size ∧ W.cell? ⟨b, off + k, none⟩ = some (str (l.getD k [])) := by
  rcases h with ⟨rfl, -⟩ | ⟨b, off, c', hv, hb, hc⟩
  · simp at hk
  · injection hv with h1 h2 h3
    exact ⟨b, off, h1, hb, hc k hk⟩
set_option maxRecDepth 100000 in
set_option maxHeartbeats 4000000 in
theorem parseAct_any (s : Bs) (hl : s.length ≤ 1000000) (w : World) (hv : Vars w) : Calls Tryz.prog 14 #[str s] w fun e w' => PaX s e ∧ Below w.heap.size w w' := by
  have HB0 : Hid (Below w.heap.size w (w.alloc (.cells ac0.cells 34))) := (Below.refl _ _).alloc (Nat.le_refl _) _
  have HX0 : Hid ((w.alloc (.cells ac0.cells 34)).heap[w.heap.size]? = some (.cells ac0.cells 34 (0, 0))) := heap_alloc_new w _
  have HCF := cutFirst_any s hl (w.alloc (.cells ac0.cells 34)) (hv.below HB0.out)
  -- an answer with no act
  have HEND : Hid (∀ (w' : World), Below (w.heap.size + 1) (w.alloc (.cells ac0.cells 34)) w' → w'.heap[w.heap.size]? = some (.cells ac0.cells 34 (0, 0)) ∧ Below w.heap.size w w') := fun w' h => ⟨(h.block _ (by omega)).trans HX0.out, HB0.out.trans (h.mono (by omega))⟩
  have HOUT : Hid (∀ (w' : World) y0 y1 y2 y3 y4 y5 y6 y7 y8, Below w.heap.size w w' → Below w.heap.size w ((((((((((w'.setCell ⟨w.heap.size, 0, none⟩ y0).setCell ⟨w.heap.size, 1, none⟩ y1).setCell ⟨w.heap.size, 2, none⟩ y2).setCell ⟨w.heap.size, 3, none⟩ y3).setCell ⟨w.heap.size, 4, none⟩ y4).setCell ⟨w.heap.size, 5, none⟩ y5).setCell ⟨w.heap.size, 6, none⟩ y6).setCell ⟨w.heap.size, 7, none⟩ y7).setCell ⟨w.heap.size, 8, none⟩ y8))) := fun w' y0 y1 y2 y3 y4 y5 y6 y7 y8 h => h.trans ((out9 (X := fun i => i = w.heap.size) rfl _ _ _ _ _ _ _ _ _).below h.size (by intro i hi; omega))
  unfold str
  unfold ac0 Ac.cells str at HX0 HB0 HCF HEND
  rw [World.size_alloc] at HCF
  go_enter Tryz.func14, Tryz.ntmps14
  go_wp2_with fail
  refine HCF.mono ?_
  rintro e w1 ⟨⟨h1, rfl⟩ | ⟨h1, h2, rfl⟩ | ⟨h1, h2, rfl⟩ | ⟨h1, wd, ws, v, h2, h3, h4, rfl⟩, hB1⟩
  · have HX1 : Hid _ := HEND.out w1 hB1
    obtain ⟨⟨r0, r1, r2, r3, r4, r5, r6, r7, r8⟩, rf⟩ := cells9 HX1.out.1
    clear hB1
    go_wp2
    refine bodyPost_ret (results_Ab rfl _ _ w.heap.size rfl rfl (set9 HX1.out.1 _ _ _ _ _ _ _ _ _)) rfl ?_
    exact ⟨⟨.error 3, .inl ⟨h1, rfl⟩, rfl⟩, HOUT.out _ _ _ _ _ _ _ _ _ _ HX1.out.2⟩
  · have HX1 : Hid _ := HEND.out w1 hB1
    obtain ⟨⟨r0, r1, r2, r3, r4, r5, r6, r7, r8⟩, rf⟩ := cells9 HX1.out.1
    clear hB1
    go_wp2
    refine bodyPost_ret (results_Ab rfl _ _ w.heap.size rfl rfl (set9 HX1.out.1 _ _ _ _ _ _ _ _ _)) rfl ?_
    exact ⟨⟨.error 4, .inr (.inl ⟨h1, h2, rfl⟩), rfl⟩, HOUT.out _ _ _ _ _ _ _ _ _ _ HX1.out.2⟩
  · have HX1 : Hid _ := HEND.out w1 hB1
    obtain ⟨⟨r0, r1, r2, r3, r4, r5, r6, r7, r8⟩, rf⟩ := cells9 HX1.out.1
    clear hB1
    go_wp2
    refine bodyPost_ret (results_Ab rfl _ _ w.heap.size rfl rfl (set9 HX1.out.1 _ _ _ _ _ _ _ _ _)) rfl ?_
    exact ⟨⟨.error 20, .inr (.inr ⟨h1, [], h2, rfl⟩), rfl⟩, HOUT.out _ _ _ _ _ _ _ _ _ _ HX1.out.2⟩
  · have HPA : Hid (∀ r, parseW (wd :: ws) = r → PaR s r) := fun r h => .inr (.inr ⟨h1, _, h2, h.symm⟩)
    have HWL : Hid (∀ x ∈ ws, x.length ≤ 1000000) := fun x hx => by have := word_len h2 x (.tail _ hx); omega
    have HFW := formOfWord_any wd w1
    unfold str at HFW
    have HX1 : Hid _ := HEND.out w1 hB1
    have HB1 : Hid (Below (w.heap.size + 1) _ w1) := hB1
    have HSR : Hid (SRd w1 v ws) := h4
    obtain ⟨va, vc, hve⟩ : ∃ va vc, v = .slice va ws.length vc := by
      rcases h4 with ⟨rfl, a, c, rfl⟩ | ⟨b, off, c, rfl, -⟩
      · exact ⟨a, c, rfl⟩
      · exact ⟨_, c, rfl⟩
    subst hve
    have hz1 : w.heap.size + 1 ≤ w1.heap.size := by have := hB1.size; simpa using this
    clear h1 h2 h4 hB1 HCF
    generalize hwl : ws.length = nw at *
    have HNW : Hid (ws.length = nw) := hwl
    clear hwl
    unfold str
    go_wp2_with fail
    refine HFW.mono ?_
    rintro e w2 ⟨hr, hB2⟩
    unfold FwR at hr
    have hz2 : w1.heap.size ≤ w2.heap.size := hB2.size
    have HB2 : Hid (Below (w.heap.size + 1) _ w2) := HB1.out.trans (hB2.mono (by omega))
    have HX2 : Hid _ := HEND.out w2 HB2.out
    obtain ⟨⟨r0, r1, r2, r3, r4, r5, r6, r7, r8⟩, rf⟩ := cells9 HX2.out.1
    obtain ⟨rc2, rf2⟩ := stays (W := w2) (R := w.heap.size) (by omega)
    cases hff : findF formsL wd with
    | none =>
      rw [hff] at hr
      subst hr
      have HR : Hid (parseW (wd :: ws) = .error 20) := by show _ = _; simp only [parseW, hff]
      unfold fo0
      clear hff hB2 HFW
      go_wp2
      refine bodyPost_ret (results_Ab rfl _ _ w.heap.size rfl rfl (set9 ((Below.heap_alloc _ _ _ (by omega)).trans HX2.out.1) _ _ _ _ _ _ _ _ _)) rfl ?_
      exact ⟨⟨.error 20, HPA.out _ HR.out, rfl⟩, HOUT.out _ _ _ _ _ _ _ _ _ _ (HX2.out.2.alloc (by omega) _)⟩
    | some f =>
      rw [hff] at hr
      obtain ⟨pb, rfl, hpl⟩ := hr
      have hfm := (findF_mem hff).1
      have HPL2 : Hid (PlAt w2 pb f.pl) := hpl
      have hpb := hpl.lt
      have hl5 := pl_len f hfm
      unfold Fo.cs
      by_cases hne : nw = f.pl.length
      case neg =>
        have HR : Hid (parseW (wd :: ws) = .error 21) := by show _ = _; simp only [parseW, hff]; rw [if_pos]; rw [HNW.out]; exact hne
        have hnd : ((nw : Int) != (f.pl.length : Int)) = true := by rw [bne_iff_ne]; omega
        clear hff hfm hpl hB2 HFW
        generalize f.pl.length = np at *
        go_wp2
        refine bodyPost_ret (results_Ab rfl _ _ w.heap.size rfl rfl (set9 ((Below.heap_alloc _ _ _ (by omega)).trans HX2.out.1) _ _ _ _ _ _ _ _ _)) rfl ?_
        exact ⟨⟨.error 21, HPA.out _ HR.out, rfl⟩, HOUT.out _ _ _ _ _ _ _ _ _ _ (HX2.out.2.alloc (by omega) _)⟩
      have HR : Hid (parseW (wd :: ws) = fill f.pl ws f.says) := by show _ = _; simp only [parseW, hff]; rw [if_neg]; rw [HNW.out]; exact fun h => h hne
      have HNE : Hid (nw = f.pl.length) := hne
      have HSR2 : Hid (SRd w2 (.slice va ws.length vc) ws) := by rw [HNW.out]; exact HSR.out.below hB2
      clear hff hfm hpl hB2 HFW hne
      have hnp : nw = nw := rfl
      rw [← HNE.out]
      have hnw5 : nw ≤ 5 := by rw [HNE.out]; exact hl5
      clear hl5
      have HBB : Hid (∀ o o', Below w2.heap.size w2 ((w2.alloc o).alloc o')) := fun o o' => ((Below.refl _ _).alloc (Nat.le_refl _) _).alloc (by simp) _
      have HBF : Hid (∀ o, AcAt ((w2.alloc o).alloc (.cells f.says.cells 34)) (w2.heap.size + 1) f.says) := fun o => by
        have := heap_alloc_new (w2.alloc o) (.cells f.says.cells 34)
        rwa [World.size_alloc] at this
      unfold Fo.says Ac.cells str at HBF
      clear r0 r1 r2 r3 r4 r5 r6 r7 r8 rf rc2 rf2
      go_wp2
      go_loopw [45] (fun i wr => ∃ (k : Nat) (ac : Ac), i = .int .i64 k ∧ k ≤ nw ∧ Hid (AcAt wr (w2.heap.size + 1) ac) ∧ Hid (fill f.pl ws f.says = fill (f.pl.drop k) (ws.drop k) ac) ∧ Hid (Below w2.heap.size w2 wr)) (fun i _ => nw - (intOf i).toNat)
      case atStart => exact ⟨0, f.says, rfl, by omega, HBF.out _, by show _ = _; rw [List.drop_zero, List.drop_zero], HBB.out _ _⟩
      case round =>
        obtain ⟨k, ac, rfl, hk, HAC, HFI, HBR⟩ := hrel
        have hzr : w2.heap.size ≤ wr.heap.size := HBR.out.size
        have HXr : Hid (wr.heap[w.heap.size]? = _) := (HBR.out.block _ (by omega)).trans HX2.out.1
        have HBW : Hid (Below w.heap.size w wr) := HX2.out.2.trans (HBR.out.mono (by omega))
        have haB : w2.heap.size + 1 < wr.heap.size := HAC.out.lt
        obtain ⟨⟨r0, r1, r2, r3, r4, r5, r6, r7, r8⟩, rf⟩ := cells9 HXr.out
        obtain ⟨rc2, rf2⟩ := stays (W := wr) (R := w.heap.size) (by omega)
        by_cases hlt : k < nw
        · have hkp : k < f.pl.length := by rw [← HNE.out]; exact hlt
          have hkw : k < ws.length := by rw [HNW.out]; exact hlt
          obtain ⟨p, hp⟩ : ∃ p, f.pl[k]? = some p := ⟨_, List.getElem?_eq_getElem hkp⟩
          have hsk : ws[k]? = some (ws.getD k []) := by rw [List.getD_eq_getElem?_getD, List.getElem?_eq_getElem hkw]; rfl
          have hsl : (ws.getD k []).length ≤ 1000000 := HWL.out _ (by rw [List.getD_eq_getElem?_getD, List.getElem?_eq_getElem hkw]; exact List.getElem_mem hkw)
          obtain ⟨x0, x1, x2, hx⟩ := p.parts
          have hpr : PlAt wr pb f.pl := HPL2.out.below HBR.out
          obtain ⟨p0, p1, p2⟩ := hpr.cells hp hx.fns
          obtain ⟨b, off, rfl, hbl2, hcw2⟩ := HSR2.out.at hkw
          have hbl : b < wr.heap.size := by omega
          have hcw := (HBR.out.cell (p := ⟨b, off + k, none⟩) hbl2).trans hcw2
          clear hcw2
          have HRD := fun W (h1 : Vars W) h2 => read_any p ac (ws.getD k []) hsl (w2.heap.size + 1) W h1 h2
          have hs0 := hx.s0
          have hs1 := hx.s1
          have hs2 := hx.s2
          have HFS : Hid _ := fill_step hp hsk ac
          have hfa : p.fns.toArray = #[x0, x1, x2] := by rw [hx.fns]
          rw [hfa] at HRD
          have HVA : Hid (∀ o, Vars (wr.alloc o)) := fun o => hv.below (HBW.out.alloc (by omega) o)
          have HAA : Hid (∀ o, AcAt (wr.alloc o) (w2.heap.size + 1) ac) := fun o => HAC.out.below ((Below.refl _ _).alloc (Nat.le_refl _) o)
          unfold str at HRD hcw
          have hpbr : pb < wr.heap.size := by omega
          generalize ws.getD k [] = sk at *
          clear hp hsk hx hpr hfa hkp hkw hsl hpb
          go_wp2
          generalize hWP : wr.alloc _ = WP
          have hWPB : Below wr.heap.size wr WP := by rw [← hWP]; exact (Below.refl _ _).alloc (Nat.le_refl _) _
          have hWPs : WP.heap.size = wr.heap.size + 1 := by rw [← hWP]; simp
          have hWPX : WP.heap[wr.heap.size]? = some (.cells #[x0, x1, x2] 113 (0, 0)) := by rw [← hWP]; exact heap_alloc_new wr _
          have hpx : WP.cell? ⟨wr.heap.size, 0, none⟩ = some x0 ∧ WP.cell? ⟨wr.heap.size, 1, none⟩ = some x1 ∧ WP.cell? ⟨wr.heap.size, 2, none⟩ = some x2 := by
            refine ⟨?_, ?_, ?_⟩
            all_goals (simp only [World.cell?, hWPX]; rfl)
          obtain ⟨px0, px1, px2⟩ := hpx
          have hcw' : WP.cell? ⟨b, off + k, none⟩ = some (.string ⟨sk.toArray⟩) := (hWPB.cell (p := ⟨b, off + k, none⟩) hbl).trans hcw
          have HCA : Hid (∀ n, Calls Tryz.prog 46 #[.agg #[x0, x1, x2], .pointer (some ⟨w2.heap.size + 1, 0, none⟩), .string ⟨sk.toArray⟩] (WP.drewN n) fun e w' => (RdR p ac sk (w2.heap.size + 1) e w' ∧ Hid (Out (fun i => i = w2.heap.size + 1) WP w')) ∧ (w'.cell? ⟨wr.heap.size, 0, none⟩ = some x0 ∧ w'.cell? ⟨wr.heap.size, 1, none⟩ = some x1 ∧ w'.cell? ⟨wr.heap.size, 2, none⟩ = some x2) ∧ w'.cell? ⟨b, off + k, none⟩ = some (.string ⟨sk.toArray⟩)) := fun n => by
            have hVW : Vars (WP.drewN n) := by rw [← hWP]; exact (HVA.out _).below (Out.drew (X := fun _ => False) _ n |>.below (Nat.le_refl _) (fun _ h => h.elim))
            have hAW : AcAt (WP.drewN n) (w2.heap.size + 1) ac := by rw [← hWP]; exact HAA.out _
            refine (HRD _ hVW hAW).mono ?_
            rintro e w' ⟨h1, h2⟩
            have hO : Out (fun i => i = w2.heap.size + 1) WP w' := (Out.drew _ n).two h2
            have hc : ∀ B j, B ≠ w2.heap.size + 1 → B < WP.heap.size → w'.cell? ⟨B, j, none⟩ = WP.cell? ⟨B, j, none⟩ := fun B j h3 h4 => by
              have := hO.block B h4 h3
              simp only [World.cell?, this]
            refine ⟨⟨h1, hO⟩, ⟨(hc _ _ (by omega) (by omega)).trans px0, (hc _ _ (by omega) (by omega)).trans px1, (hc _ _ (by omega) (by omega)).trans px2⟩, (hc _ _ (by omega) (by omega)).trans hcw'⟩
          have HWPB : Hid (Below wr.heap.size wr WP) := hWPB
          unfold RdR at HCA
          cases hrd : p.rd ac sk with
          | error kk =>
            have hkk := rd_err hrd
            have HFE : Hid (fill f.pl ws f.says = .error kk) := by show _ = _; rw [HFI.out, HFS.out, hrd]
            have hkd : ((kk : Int) != 0) = true := by rw [bne_iff_ne]; omega
            rw [hrd] at HCA
            clear hWPB hWP hWPX HRD hcw HFS hrd hkk
            go_region_held3 (fun V => (V.cell? ⟨wr.heap.size, 0, none⟩ = some x0 ∧ V.cell? ⟨wr.heap.size, 1, none⟩ = some x1 ∧ V.cell? ⟨wr.heap.size, 2, none⟩ = some x2) ∧ V.cell? ⟨b, off + k, none⟩ = some (.string ⟨sk.toArray⟩)) (go_keep) ((go_at_call 46; refine (HCA.out _).mono ?_; rintro e w6 ⟨⟨⟨rfl, hA6⟩, HO6⟩, ⟨g0, g1, g2⟩, g3⟩))
            have hB6 : Below w2.heap.size w2 w6 := (HBR.out.trans (HWPB.out.mono hzr)).trans (HO6.out.below (by omega) (by intro i hi; omega))
            have hX6 : w6.heap[w.heap.size]? = _ := (hB6.block _ (by omega)).trans HX2.out.1
            have HX6 : Hid (w6.heap[w.heap.size]? = _) := hX6
            have HBW6 : Hid (Below w.heap.size w w6) := HX2.out.2.trans (hB6.mono (by omega))
            obtain ⟨⟨r0, r1, r2, r3, r4, r5, r6, r7, r8⟩, rf⟩ := cells9 hX6
            clear hB6 hX6 hA6 HO6
            go_wp2
            refine bodyPost_ret (results_Ab rfl _ _ w.heap.size rfl rfl (set9 HX6.out _ _ _ _ _ _ _ _ _)) rfl ?_
            exact ⟨⟨.error kk, HPA.out _ (HR.out.trans HFE.out), rfl⟩, HOUT.out _ _ _ _ _ _ _ _ _ _ HBW6.out⟩
          | ok ac' =>
            have HFE : Hid (fill f.pl ws f.says = fill (f.pl.drop (k + 1)) (ws.drop (k + 1)) ac') := by show _ = _; rw [HFI.out, HFS.out, hrd]
            rw [hrd] at HCA
            clear hWPB hWP hWPX HRD hcw HFS hrd
            go_region_held3 (fun V => (V.cell? ⟨wr.heap.size, 0, none⟩ = some x0 ∧ V.cell? ⟨wr.heap.size, 1, none⟩ = some x1 ∧ V.cell? ⟨wr.heap.size, 2, none⟩ = some x2) ∧ V.cell? ⟨b, off + k, none⟩ = some (.string ⟨sk.toArray⟩)) (go_keep) ((go_at_call 46; refine (HCA.out _).mono ?_; rintro e w6 ⟨⟨⟨rfl, hA6⟩, HO6⟩, ⟨g0, g1, g2⟩, g3⟩))
            have HB6 : Hid (Below w2.heap.size w2 w6) := (HBR.out.trans (HWPB.out.mono hzr)).trans (HO6.out.below (by omega) (by intro i hi; omega))
            have HA6 : Hid (AcAt w6 (w2.heap.size + 1) ac') := hA6
            clear hA6 HO6 r0 r1 r2 r3 r4 r5 r6 r7 r8 rf rc2 rf2
            go_wp2
            go_roundw
            case rel => exact ⟨k + 1, ac', by simp, by omega, HA6.out, HFE.out, HB6.out⟩
            case measure => simp [intOf]; omega
        · have : k = nw := by omega
          subst this
          have HFE : Hid (fill f.pl ws f.says = .ok ac) := by
            show _ = _
            rw [HFI.out, List.drop_of_length_le (by rw [HNE.out]; omega)]
            cases List.drop k ws <;> rfl
          obtain ⟨a0, a1, a2, a3, a4, a5, a6, a7, a8⟩ := HAC.out.cells
          go_wp2
          refine bodyPost_ret (results_Ab rfl _ _ w.heap.size rfl rfl (set9 HXr.out _ _ _ _ _ _ _ _ _)) rfl ?_
          exact ⟨⟨.ok ac, HPA.out _ (HR.out.trans HFE.out), rfl⟩, HOUT.out _ _ _ _ _ _ _ _ _ _ HBW.out⟩
end Go.Proofs.YtbckogojnjmjcaaGreatDoor
