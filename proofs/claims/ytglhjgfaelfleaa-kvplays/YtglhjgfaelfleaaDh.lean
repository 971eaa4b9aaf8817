/-
  The document's store: Do.
-/
import Derived.Test.YtglhjgfaelfleaaDf
namespace Go.Proofs.Ytglhjgfaelfleaa
open Go.RowKit
set_option linter.unusedVariables false

set_option maxRecDepth 100000 in
set_option maxHeartbeats 8000000 in
theorem rdo_old {N : Nat} {W : World} {d : Nat} {vp vs : Value} {K : KV} (h : DS N W d vp vs K) (hN : N ≤ W.heap.size) (op cl sq : Int) (ky vl od : Bs) (hck : ckCommand op cl sq ky vl od = 0) (hlt0 : plS cl K.ss < K.ss.length) (psq pco : Int) (pva : Bs) (hp : K.ss[plS cl K.ss] = ⟨cl, psq, ⟨pco, pva⟩⟩) (hs : sq < psq) :
    Calls Try.prog 12 #[.pointer (some ⟨d, 0, none⟩), .agg #[.int .i64 op, .int .i64 cl, .int .i64 sq, .string ⟨ky.toArray⟩, .string ⟨vl.toArray⟩, .string ⟨od.toArray⟩]] W fun e w' => DoW N W d vp vs K ⟨4, []⟩ 0 e w' := by
  have HCK : Hid (∀ V, Calls Try.prog 29 #[.agg #[.int .i64 op, .int .i64 cl, .int .i64 sq, .string ⟨ky.toArray⟩, .string ⟨vl.toArray⟩, .string ⟨od.toArray⟩]] V fun e w' => e = .returned (.int .i64 0) ∧ Below V.heap.size V w') := fun V => by have := refCkCommand_any op cl sq ky vl od V; rw [hck] at this; exact this
  have HD : Hid (DS N W d vp vs K) := h
  have HNN : Hid (N ≤ W.heap.size) := hN
  have hfew := h.ok.fewS
  have hpl := plS_le cl K.ss
  obtain ⟨sa, sc, rfl, -, -⟩ := h.rs.shape
  have HF : Hid (∀ k, k < plS cl K.ss → ∃ h : k < K.ss.length, K.ss[k].cl < cl) := fun k hk => by obtain ⟨h1, h2⟩ := tw_take hk; exact ⟨h1, by simpa using h2⟩
  have HG : Hid (∀ h : plS cl K.ss < K.ss.length, ¬ K.ss[plS cl K.ss].cl < cl) := fun h => by have := tw_stop (f := fun s : Se => decide (s.cl < cl)) (xs := K.ss) h; have h2 : decide (K.ss[plS cl K.ss].cl < cl) = false := this; simpa using h2
  clear h hN
  obtain ⟨W1, HW1⟩ : ∃ W1, Hid ((W.alloc (.cells #[.int .i64 op, .int .i64 cl, .int .i64 sq, .string ⟨ky.toArray⟩, .string ⟨vl.toArray⟩, .string ⟨od.toArray⟩] 38)).alloc (.cells #[.int .i64 0, .string ⟨[].toArray⟩] 33) = W1) := ⟨_, rfl⟩
  have HB1 : Hid (Below W.heap.size W W1) := by rw [← HW1.out]; exact Below.alloc' (Below.alloc' (Below.refl _ _) _) _
  have HC1 : Hid (Dc W1 W.heap.size op cl sq ky vl od) := by rw [← HW1.out]; exact Dc.below (heap_alloc_new W _) ((Below.refl _ _).alloc (Nat.le_refl _) _)
  have HX1 : Hid (Rb W1 (W.heap.size + 1) 0 []) := by rw [← HW1.out]; exact box2 W _ _
  have HP : Hid (K.ss[plS cl K.ss] = ⟨cl, psq, ⟨pco, pva⟩⟩) := hp
  have hkl := hlt0
  clear hp
  have hs1 : ¬ sq = psq := by omega
  have hs1' : (sq == psq) = false := by simpa using hs1
  generalize plS cl K.ss = pl at *
  go_enter Try.func12, Try.ntmps12
  go_wp2_with fail
  rw [HW1.out]
  refine (HCK.out W1).mono ?_
  rintro e W2 ⟨rfl, hB2⟩
  have HB2 : Hid (Below W.heap.size W W2) := HB1.out.trans (hB2.mono HB1.out.size)
  have HX2 : Hid (Rb W2 (W.heap.size + 1) 0 []) := HX1.out.below hB2
  have HC2 : Hid (Dc W2 W.heap.size op cl sq ky vl od) := HC1.out.below hB2
  have HD2 : Hid (DS N W2 d _ _ K) := HD.out.below HB2.out
  have hd0 : d < W.heap.size := (Array.getElem?_eq_some_iff.1 HD.out.hd).1
  have hdn : ¬ d = W.heap.size + 1 := by omega
  have hdn' : ¬ W.heap.size + 1 = d := by omega
  clear hB2 HB1 HX1 HW1 HCK HC1
  go_wp2
  go_loopw [7] (fun kv wr => ∃ k : Nat, kv = .int .i64 (k : Int) ∧ k ≤ pl ∧ Below W2.heap.size W2 wr) (fun kv _ => pl - (intOf kv).toNat)
  case atStart => exact ⟨0, rfl, Nat.zero_le _, Below.refl _ _⟩
  case round =>
    obtain ⟨k, rfl, hk, hBr⟩ := hrel
    have HBR : Hid (Below W2.heap.size W2 wr) := hBr
    have HDR : Hid (DS N wr d _ _ K) := HD2.out.below hBr
    have HXR : Hid (Rb wr (W.heap.size + 1) 0 []) := HX2.out.below hBr
    have HCR : Hid (Dc wr W.heap.size op cl sq ky vl od) := HC2.out.below hBr
    clear hBr
    obtain ⟨c0, c1⟩ := HDR.out.cells
    obtain ⟨a0, a1, a2, a3, a4, a5⟩ := HCR.out.cells
    dsimp only at a0 a1 a2 a3 a4 a5
    by_cases hlt : k < pl
    · obtain ⟨hkl, hbb⟩ := HF.out k hlt
      have hkl' : (k : Int) < (K.ss.length : Int) := by omega
      have hi0 : (0 : Int) ≤ (k : Int) := by omega
      obtain ⟨g, cp, hv, -, hgl, -, hcell⟩ := HDR.out.rs.at0 (by omega)
      simp only [Value.slice.injEq] at hv
      obtain ⟨hsa, -, -⟩ := hv
      subst hsa
      have x0 := hcell k 0 hkl (by decide)
      generalize K.ss[k] = p at *
      have x0' : wr.cell? ⟨g, k * 4, none⟩ = some (.int .i64 p.cl) := x0
      obtain ⟨pcl, psq, prp⟩ := p
      dsimp only at x0' hbb
      clear hcell x0
      go_wp2_with fail
      go_quiet (fail)
      go_wp2
      go_roundw
      case rel => exact ⟨k + 1, by go_num, by omega, Below.drewN' HBR.out _⟩
      case measure => simp [intOf]; omega
    · obtain rfl : k = pl := by omega
      clear hlt HF
      have hkl' : (k : Int) < (K.ss.length : Int) := by omega
      have hi0 : (0 : Int) ≤ (k : Int) := by omega
      obtain ⟨g, cp, hv, -, hgl, -, hcell⟩ := HDR.out.rs.at0 (by omega)
      simp only [Value.slice.injEq] at hv
      obtain ⟨hsa, -, -⟩ := hv
      subst hsa
      have x0 := hcell k 0 hkl (by decide)
      have x1 := hcell k 1 hkl (by decide)
      have x2 := hcell k 2 hkl (by decide)
      have x3 := hcell k 3 hkl (by decide)
      rw [HP.out] at x0 x1 x2 x3
      have y0 : wr.cell? ⟨g, k * 4, none⟩ = some (.int .i64 cl) := x0
      have y1 : wr.cell? ⟨g, k * 4 + 1, none⟩ = some (.int .i64 psq) := x1
      have y2 : wr.cell? ⟨g, k * 4 + 2, none⟩ = some (.int .i64 pco) := x2
      have y3 : wr.cell? ⟨g, k * 4 + 3, none⟩ = some (.string ⟨pva.toArray⟩) := x3
      have hcc : decide (cl < cl) = false := by simp
      clear hcell x0 x1 x2 x3 HG
      obtain ⟨m0, m1⟩ := HXR.out.cells
      obtain ⟨f0, f1⟩ := HXR.out.free
      have lr : W.heap.size + 1 < wr.heap.size := (Array.getElem?_eq_some_iff.1 HXR.out).1
      go_wp2_with fail
      go_quiet (fail)
      go_wp2_with fail
      go_quiet (fail)
      go_wp2_with fail
      go_quiet (fail)
      go_wp2_with fail
      go_quiet (fail)
      go_wp2
      refine bodyPost_ret (v := .tuple #[.agg #[.int .i64 4, .string ⟨[].toArray⟩], .int .i64 0]) (by simp [results, Try.results12, go_sem, m0, m1]) rfl ?_
      exact DoW.keep (r := ⟨4, []⟩) HD.out HNN.out (below_set2 (HB2.out.trans ((Below.drewN' (HBR.out.trans (Below.refl _ _)) _).mono HB2.out.size)) (by omega))

set_option maxRecDepth 100000 in
set_option maxHeartbeats 8000000 in
theorem rdo_full {N : Nat} {W : World} {d : Nat} {vp vs : Value} {K : KV} (h : DS N W d vp vs K) (hN : N ≤ W.heap.size) (op cl sq : Int) (ky vl od : Bs) (hck : ckCommand op cl sq ky vl od = 0) (hun : ∀ h : plS cl K.ss < K.ss.length, ¬ K.ss[plS cl K.ss].cl = cl) (hfl : 32 ≤ K.ss.length) :
    Calls Try.prog 12 #[.pointer (some ⟨d, 0, none⟩), .agg #[.int .i64 op, .int .i64 cl, .int .i64 sq, .string ⟨ky.toArray⟩, .string ⟨vl.toArray⟩, .string ⟨od.toArray⟩]] W fun e w' => DoW N W d vp vs K ⟨5, []⟩ 0 e w' := by
  have HCK : Hid (∀ V, Calls Try.prog 29 #[.agg #[.int .i64 op, .int .i64 cl, .int .i64 sq, .string ⟨ky.toArray⟩, .string ⟨vl.toArray⟩, .string ⟨od.toArray⟩]] V fun e w' => e = .returned (.int .i64 0) ∧ Below V.heap.size V w') := fun V => by have := refCkCommand_any op cl sq ky vl od V; rw [hck] at this; exact this
  have HD : Hid (DS N W d vp vs K) := h
  have HNN : Hid (N ≤ W.heap.size) := hN
  have hfew := h.ok.fewS
  have hpl := plS_le cl K.ss
  obtain ⟨sa, sc, rfl, -, -⟩ := h.rs.shape
  have HF : Hid (∀ k, k < plS cl K.ss → ∃ h : k < K.ss.length, K.ss[k].cl < cl) := fun k hk => by obtain ⟨h1, h2⟩ := tw_take hk; exact ⟨h1, by simpa using h2⟩
  have HG : Hid (∀ h : plS cl K.ss < K.ss.length, ¬ K.ss[plS cl K.ss].cl < cl) := fun h => by have := tw_stop (f := fun s : Se => decide (s.cl < cl)) (xs := K.ss) h; have h2 : decide (K.ss[plS cl K.ss].cl < cl) = false := this; simpa using h2
  clear h hN
  obtain ⟨W1, HW1⟩ : ∃ W1, Hid ((W.alloc (.cells #[.int .i64 op, .int .i64 cl, .int .i64 sq, .string ⟨ky.toArray⟩, .string ⟨vl.toArray⟩, .string ⟨od.toArray⟩] 38)).alloc (.cells #[.int .i64 0, .string ⟨[].toArray⟩] 33) = W1) := ⟨_, rfl⟩
  have HB1 : Hid (Below W.heap.size W W1) := by rw [← HW1.out]; exact Below.alloc' (Below.alloc' (Below.refl _ _) _) _
  have HC1 : Hid (Dc W1 W.heap.size op cl sq ky vl od) := by rw [← HW1.out]; exact Dc.below (heap_alloc_new W _) ((Below.refl _ _).alloc (Nat.le_refl _) _)
  have HX1 : Hid (Rb W1 (W.heap.size + 1) 0 []) := by rw [← HW1.out]; exact box2 W _ _
  have HUN : Hid (∀ h : plS cl K.ss < K.ss.length, ¬ K.ss[plS cl K.ss].cl = cl) := hun
  clear hun
  have hfl' : (32 : Int) ≤ (K.ss.length : Int) := by omega
  generalize plS cl K.ss = pl at *
  go_enter Try.func12, Try.ntmps12
  go_wp2_with fail
  rw [HW1.out]
  refine (HCK.out W1).mono ?_
  rintro e W2 ⟨rfl, hB2⟩
  have HB2 : Hid (Below W.heap.size W W2) := HB1.out.trans (hB2.mono HB1.out.size)
  have HX2 : Hid (Rb W2 (W.heap.size + 1) 0 []) := HX1.out.below hB2
  have HC2 : Hid (Dc W2 W.heap.size op cl sq ky vl od) := HC1.out.below hB2
  have HD2 : Hid (DS N W2 d _ _ K) := HD.out.below HB2.out
  have hd0 : d < W.heap.size := (Array.getElem?_eq_some_iff.1 HD.out.hd).1
  have hdn : ¬ d = W.heap.size + 1 := by omega
  have hdn' : ¬ W.heap.size + 1 = d := by omega
  clear hB2 HB1 HX1 HW1 HCK HC1
  go_wp2
  go_loopw [7] (fun kv wr => ∃ k : Nat, kv = .int .i64 (k : Int) ∧ k ≤ pl ∧ Below W2.heap.size W2 wr) (fun kv _ => pl - (intOf kv).toNat)
  case atStart => exact ⟨0, rfl, Nat.zero_le _, Below.refl _ _⟩
  case round =>
    obtain ⟨k, rfl, hk, hBr⟩ := hrel
    have HBR : Hid (Below W2.heap.size W2 wr) := hBr
    have HDR : Hid (DS N wr d _ _ K) := HD2.out.below hBr
    have HXR : Hid (Rb wr (W.heap.size + 1) 0 []) := HX2.out.below hBr
    have HCR : Hid (Dc wr W.heap.size op cl sq ky vl od) := HC2.out.below hBr
    clear hBr
    obtain ⟨c0, c1⟩ := HDR.out.cells
    obtain ⟨a0, a1, a2, a3, a4, a5⟩ := HCR.out.cells
    dsimp only at a0 a1 a2 a3 a4 a5
    by_cases hlt : k < pl
    · obtain ⟨hkl, hbb⟩ := HF.out k hlt
      have hkl' : (k : Int) < (K.ss.length : Int) := by omega
      have hi0 : (0 : Int) ≤ (k : Int) := by omega
      obtain ⟨g, cp, hv, -, hgl, -, hcell⟩ := HDR.out.rs.at0 (by omega)
      simp only [Value.slice.injEq] at hv
      obtain ⟨hsa, -, -⟩ := hv
      subst hsa
      have x0 := hcell k 0 hkl (by decide)
      generalize K.ss[k] = p at *
      have x0' : wr.cell? ⟨g, k * 4, none⟩ = some (.int .i64 p.cl) := x0
      obtain ⟨pcl, psq, prp⟩ := p
      dsimp only at x0' hbb
      clear hcell x0
      go_wp2_with fail
      go_quiet (fail)
      go_wp2
      go_roundw
      case rel => exact ⟨k + 1, by go_num, by omega, Below.drewN' HBR.out _⟩
      case measure => simp [intOf]; omega
    · obtain rfl : k = pl := by omega
      clear hlt HF
      by_cases hkl : k < K.ss.length
      · have hkl' : (k : Int) < (K.ss.length : Int) := by omega
        have hi0 : (0 : Int) ≤ (k : Int) := by omega
        obtain ⟨g, cp, hv, -, hgl, -, hcell⟩ := HDR.out.rs.at0 (by omega)
        simp only [Value.slice.injEq] at hv
        obtain ⟨hsa, -, -⟩ := hv
        subst hsa
        have x0 := hcell k 0 hkl (by decide)
        have hu1 := HUN.out hkl
        have hu2 := HG.out hkl
        generalize K.ss[k] = p at x0 hu1 hu2
        have y0 : wr.cell? ⟨g, k * 4, none⟩ = some (.int .i64 p.cl) := x0
        obtain ⟨pcl, psq, prp⟩ := p
        dsimp only at y0 hu1 hu2
        have hu1' : (pcl == cl) = false := by simpa using hu1
        have hu2' : decide (pcl < cl) = false := by simpa using hu2
        clear hcell x0 HG HUN
        obtain ⟨m0, m1⟩ := HXR.out.cells
        obtain ⟨f0, f1⟩ := HXR.out.free
        have lr : W.heap.size + 1 < wr.heap.size := (Array.getElem?_eq_some_iff.1 HXR.out).1
        go_wp2_with fail
        go_quiet (fail)
        go_wp2_with fail
        go_quiet (fail)
        go_wp2_with fail
        go_quiet (fail)
        go_wp2_with fail
        go_quiet (fail)
        go_wp2
        refine bodyPost_ret (v := .tuple #[.agg #[.int .i64 5, .string ⟨[].toArray⟩], .int .i64 0]) (by simp [results, Try.results12, go_sem, m0, m1]) rfl ?_
        exact DoW.keep (r := ⟨5, []⟩) HD.out HNN.out (below_set2 (HB2.out.trans ((Below.drewN' (HBR.out.trans (Below.refl _ _)) _).mono HB2.out.size)) (by omega))

      · have hkl' : decide ((k : Int) < (K.ss.length : Int)) = false := by simp; omega
        have hkl2 : ¬ k < K.ss.length := hkl
        clear HG HUN
        obtain ⟨m0, m1⟩ := HXR.out.cells
        obtain ⟨f0, f1⟩ := HXR.out.free
        have lr : W.heap.size + 1 < wr.heap.size := (Array.getElem?_eq_some_iff.1 HXR.out).1
        go_wp2_with fail
        go_quiet (fail)
        go_wp2_with fail
        go_quiet (fail)
        go_wp2_with fail
        go_quiet (fail)
        go_wp2_with fail
        go_quiet (fail)
        go_wp2
        refine bodyPost_ret (v := .tuple #[.agg #[.int .i64 5, .string ⟨[].toArray⟩], .int .i64 0]) (by simp [results, Try.results12, go_sem, m0, m1]) rfl ?_
        exact DoW.keep (r := ⟨5, []⟩) HD.out HNN.out (below_set2 (HB2.out.trans ((Below.drewN' (HBR.out.trans (Below.refl _ _)) _).mono HB2.out.size)) (by omega))

end Go.Proofs.Ytglhjgfaelfleaa
