/-
  The document's store: Do. The document's store: Do. The document's store: Do. The document's store: Do.
-/
import Derived.Test.YtglhjgfaelfleaaGreatDf
namespace Go.Proofs.YtglhjgfaelfleaaGreat
open Go.RowKit
set_option linter.unusedVariables false

set_option maxRecDepth 100000 in
set_option maxHeartbeats 4000000 in
theorem rdo_bad {N : Nat} {W : World} {d : Nat} {vp vs : Value} {K : KV} (h : DS N W d vp vs K) (hN : N ≤ W.heap.size) (op cl sq : Int) (ky vl od : Bs) (hck : ckCommand op cl sq ky vl od ≠ 0) :
    Calls Tryz.prog 15 #[.pointer (some ⟨d, 0, none⟩), .agg #[.int .i64 op, .int .i64 cl, .int .i64 sq, .string ⟨ky.toArray⟩, .string ⟨vl.toArray⟩, .string ⟨od.toArray⟩]] W fun e w' => DoW N W d vp vs K rp0 (ckCommand op cl sq ky vl od) e w' := by
  have HCK : Hid (∀ V, Calls Tryz.prog 40 #[.agg #[.int .i64 op, .int .i64 cl, .int .i64 sq, .string ⟨ky.toArray⟩, .string ⟨vl.toArray⟩, .string ⟨od.toArray⟩]] V fun e w' => e = .returned (.int .i64 (ckCommand op cl sq ky vl od : Int)) ∧ Below V.heap.size V w') := fun V => refCkCommand_any op cl sq ky vl od V
  have HD : Hid (DS N W d vp vs K) := h
  have HNN : Hid (N ≤ W.heap.size) := hN
  clear h hN
  generalize ckCommand op cl sq ky vl od = E at *
  have hE : ((E : Int) == 0) = false := by simp; omega
  have hE2 : ¬ (E : Int) = 0 := by omega
  clear hck
  obtain ⟨W1, HW1⟩ : ∃ W1, Hid ((W.alloc (.cells #[.int .i64 op, .int .i64 cl, .int .i64 sq, .string ⟨ky.toArray⟩, .string ⟨vl.toArray⟩, .string ⟨od.toArray⟩] 44)).alloc (.cells #[.int .i64 0, .string ⟨[].toArray⟩] 40) = W1) := ⟨_, rfl⟩
  have HB1 : Hid (Below W.heap.size W W1) := by rw [← HW1.out]; exact Below.alloc' (Below.alloc' (Below.refl _ _) _) _
  have HC1 : Hid (Dc W1 W.heap.size op cl sq ky vl od) := by rw [← HW1.out]; exact Dc.below (heap_alloc_new W _) ((Below.refl _ _).alloc (Nat.le_refl _) _)
  have HX1 : Hid (Rb W1 (W.heap.size + 1) 0 []) := by rw [← HW1.out]; exact box2 W _ _
  go_enter Tryz.func15, Tryz.ntmps15
  go_wp2_with fail
  rw [HW1.out]
  refine (HCK.out W1).mono ?_
  rintro e W2 ⟨rfl, hB2⟩
  have HB2 : Hid (Below W.heap.size W W2) := HB1.out.trans (hB2.mono HB1.out.size)
  have hb2 : Rb W2 (W.heap.size + 1) 0 [] := HX1.out.below hB2
  obtain ⟨m0, m1⟩ := hb2.cells
  obtain ⟨f0, f1⟩ := hb2.free
  have lr : W.heap.size + 1 < W2.heap.size := (Array.getElem?_eq_some_iff.1 hb2).1
  clear hB2 HB1 HX1 HW1 HCK hb2 HC1
  go_wp2
  refine bodyPost_ret (v := .tuple #[.agg #[.int .i64 0, .string ⟨[].toArray⟩], .int .i64 (E : Int)]) (by simp [results, Tryz.results15, go_sem, m0, m1]) rfl ?_
  exact DoW.keep (r := ⟨0, []⟩) HD.out HNN.out (below_set2 HB2.out (by omega))

set_option maxRecDepth 100000 in
set_option maxHeartbeats 8000000 in
theorem rdo_same {N : Nat} {W : World} {d : Nat} {vp vs : Value} {K : KV} (h : DS N W d vp vs K) (hN : N ≤ W.heap.size) (op cl sq : Int) (ky vl od : Bs) (hck : ckCommand op cl sq ky vl od = 0) (hlt0 : plS cl K.ss < K.ss.length) (psq pco : Int) (pva : Bs) (hp : K.ss[plS cl K.ss] = ⟨cl, psq, ⟨pco, pva⟩⟩) (hs : sq = psq) :
    Calls Tryz.prog 15 #[.pointer (some ⟨d, 0, none⟩), .agg #[.int .i64 op, .int .i64 cl, .int .i64 sq, .string ⟨ky.toArray⟩, .string ⟨vl.toArray⟩, .string ⟨od.toArray⟩]] W fun e w' => DoW N W d vp vs K ⟨pco, pva⟩ 0 e w' := by
  have HCK : Hid (∀ V, Calls Tryz.prog 40 #[.agg #[.int .i64 op, .int .i64 cl, .int .i64 sq, .string ⟨ky.toArray⟩, .string ⟨vl.toArray⟩, .string ⟨od.toArray⟩]] V fun e w' => e = .returned (.int .i64 0) ∧ Below V.heap.size V w') := fun V => by have := refCkCommand_any op cl sq ky vl od V; rw [hck] at this; exact this
  have HD : Hid (DS N W d vp vs K) := h
  have HNN : Hid (N ≤ W.heap.size) := hN
  have hfew := h.ok.fewS
  have hpl := plS_le cl K.ss
  obtain ⟨sa, sc, rfl, -, -⟩ := h.rs.shape
  have HF : Hid (∀ k, k < plS cl K.ss → ∃ h : k < K.ss.length, K.ss[k].cl < cl) := fun k hk => by obtain ⟨h1, h2⟩ := tw_take hk; exact ⟨h1, by simpa using h2⟩
  have HG : Hid (∀ h : plS cl K.ss < K.ss.length, ¬ K.ss[plS cl K.ss].cl < cl) := fun h => by have := tw_stop (f := fun s : Se => decide (s.cl < cl)) (xs := K.ss) h; have h2 : decide (K.ss[plS cl K.ss].cl < cl) = false := this; simpa using h2
  clear h hN
  obtain ⟨W1, HW1⟩ : ∃ W1, Hid ((W.alloc (.cells #[.int .i64 op, .int .i64 cl, .int .i64 sq, .string ⟨ky.toArray⟩, .string ⟨vl.toArray⟩, .string ⟨od.toArray⟩] 44)).alloc (.cells #[.int .i64 0, .string ⟨[].toArray⟩] 40) = W1) := ⟨_, rfl⟩
  have HB1 : Hid (Below W.heap.size W W1) := by rw [← HW1.out]; exact Below.alloc' (Below.alloc' (Below.refl _ _) _) _
  have HC1 : Hid (Dc W1 W.heap.size op cl sq ky vl od) := by rw [← HW1.out]; exact Dc.below (heap_alloc_new W _) ((Below.refl _ _).alloc (Nat.le_refl _) _)
  have HX1 : Hid (Rb W1 (W.heap.size + 1) 0 []) := by rw [← HW1.out]; exact box2 W _ _
  have HP : Hid (K.ss[plS cl K.ss] = ⟨cl, psq, ⟨pco, pva⟩⟩) := hp
  have hkl := hlt0
  clear hp
  subst hs
  generalize plS cl K.ss = pl at *
  go_enter Tryz.func15, Tryz.ntmps15
  go_wp2_with fail
  rw [HW1.out]
  refine (HCK.out W1).mono ?_
  rintro e W2 ⟨rfl, hB2⟩
  have HB2 : Hid (Below W.heap.size W W2) := HB1.out.trans (hB2.mono HB1.out.size)
  have HX2 : Hid (Rb W2 (W.heap.size + 1) 0 []) := HX1.out.below hB2
  have HC2 : Hid (Dc W2 W.heap.size op cl sq ky vl od) := HC1.out.below hB2
  have HD2 : Hid (DS N W2 d _ _ K) := HD.out.below HB2.out
  have hd0 : d < W.heap.size := (Array.getElem?_eq_some_iff.1 HD.out.hd).1
  have hdn : ¬ d = W.heap.size + 1 := by omega
  have hdn' : ¬ W.heap.size + 1 = d := by omega
  clear hB2 HB1 HX1 HW1 HCK HC1
  go_wp2
  go_loopw [7] (fun kv wr => ∃ k : Nat, kv = .int .i64 (k : Int) ∧ k ≤ pl ∧ Below W2.heap.size W2 wr) (fun kv _ => pl - (intOf kv).toNat)
  case atStart => exact ⟨0, rfl, Nat.zero_le _, Below.refl _ _⟩
  case round =>
    obtain ⟨k, rfl, hk, hBr⟩ := hrel
    have HBR : Hid (Below W2.heap.size W2 wr) := hBr
    have HDR : Hid (DS N wr d _ _ K) := HD2.out.below hBr
    have HXR : Hid (Rb wr (W.heap.size + 1) 0 []) := HX2.out.below hBr
    have HCR : Hid (Dc wr W.heap.size op cl sq ky vl od) := HC2.out.below hBr
    clear hBr
    obtain ⟨c0, c1⟩ := HDR.out.cells
    obtain ⟨a0, a1, a2, a3, a4, a5⟩ := HCR.out.cells
    dsimp only at a0 a1 a2 a3 a4 a5
    by_cases hlt : k < pl
    · obtain ⟨hkl, hbb⟩ := HF.out k hlt
      have hkl' : (k : Int) < (K.ss.length : Int) := by omega
      have hi0 : (0 : Int) ≤ (k : Int) := by omega
      obtain ⟨g, cp, hv, -, hgl, -, hcell⟩ := HDR.out.rs.at0 (by omega)
      simp only [Value.slice.injEq] at hv
      obtain ⟨hsa, -, -⟩ := hv
      subst hsa
      have x0 := hcell k 0 hkl (by decide)
      generalize K.ss[k] = p at *
      have x0' : wr.cell? ⟨g, k * 4, none⟩ = some (.int .i64 p.cl) := x0
      obtain ⟨pcl, psq, prp⟩ := p
      dsimp only at x0' hbb
      clear hcell x0
      go_wp2_with fail
      go_quiet (fail)
      go_wp2
      go_roundw
      case rel => exact ⟨k + 1, by go_num, by omega, Below.drewN' HBR.out _⟩
      case measure => simp [intOf]; omega
    · obtain rfl : k = pl := by omega
      clear hlt HF
      have hkl' : (k : Int) < (K.ss.length : Int) := by omega
      have hi0 : (0 : Int) ≤ (k : Int) := by omega
      obtain ⟨g, cp, hv, -, hgl, -, hcell⟩ := HDR.out.rs.at0 (by omega)
      simp only [Value.slice.injEq] at hv
      obtain ⟨hsa, -, -⟩ := hv
      subst hsa
      have x0 := hcell k 0 hkl (by decide)
      have x1 := hcell k 1 hkl (by decide)
      have x2 := hcell k 2 hkl (by decide)
      have x3 := hcell k 3 hkl (by decide)
      rw [HP.out] at x0 x1 x2 x3
      have y0 : wr.cell? ⟨g, k * 4, none⟩ = some (.int .i64 cl) := x0
      have y1 : wr.cell? ⟨g, k * 4 + 1, none⟩ = some (.int .i64 sq) := x1
      have y2 : wr.cell? ⟨g, k * 4 + 2, none⟩ = some (.int .i64 pco) := x2
      have y3 : wr.cell? ⟨g, k * 4 + 3, none⟩ = some (.string ⟨pva.toArray⟩) := x3
      have hcc : decide (cl < cl) = false := by simp
      clear hcell x0 x1 x2 x3 HG
      obtain ⟨m0, m1⟩ := HXR.out.cells
      obtain ⟨f0, f1⟩ := HXR.out.free
      have lr : W.heap.size + 1 < wr.heap.size := (Array.getElem?_eq_some_iff.1 HXR.out).1
      go_wp2_with fail
      go_quiet (fail)
      go_wp2_with fail
      go_quiet (fail)
      go_wp2_with fail
      go_quiet (fail)
      go_wp2
      refine bodyPost_ret (v := .tuple #[.agg #[.int .i64 pco, .string ⟨pva.toArray⟩], .int .i64 0]) (by simp [results, Tryz.results15, go_sem, m0, m1]) rfl ?_
      exact DoW.keep (r := ⟨pco, pva⟩) HD.out HNN.out (below_set2 (HB2.out.trans ((Below.drewN' (HBR.out.trans (Below.refl _ _)) _).mono HB2.out.size)) (by omega))
end Go.Proofs.YtglhjgfaelfleaaGreat
namespace Go.Proofs.YtglhjgfaelfleaaGreat
open Go.RowKit
set_option linter.unusedVariables false

set_option maxRecDepth 100000 in
set_option maxHeartbeats 8000000 in
theorem rdo_old {N : Nat} {W : World} {d : Nat} {vp vs : Value} {K : KV} (h : DS N W d vp vs K) (hN : N ≤ W.heap.size) (op cl sq : Int) (ky vl od : Bs) (hck : ckCommand op cl sq ky vl od = 0) (hlt0 : plS cl K.ss < K.ss.length) (psq pco : Int) (pva : Bs) (hp : K.ss[plS cl K.ss] = ⟨cl, psq, ⟨pco, pva⟩⟩) (hs : sq < psq) :
    Calls Tryz.prog 15 #[.pointer (some ⟨d, 0, none⟩), .agg #[.int .i64 op, .int .i64 cl, .int .i64 sq, .string ⟨ky.toArray⟩, .string ⟨vl.toArray⟩, .string ⟨od.toArray⟩]] W fun e w' => DoW N W d vp vs K ⟨4, []⟩ 0 e w' := by
  have HCK : Hid (∀ V, Calls Tryz.prog 40 #[.agg #[.int .i64 op, .int .i64 cl, .int .i64 sq, .string ⟨ky.toArray⟩, .string ⟨vl.toArray⟩, .string ⟨od.toArray⟩]] V fun e w' => e = .returned (.int .i64 0) ∧ Below V.heap.size V w') := fun V => by have := refCkCommand_any op cl sq ky vl od V; rw [hck] at this; exact this
  have HD : Hid (DS N W d vp vs K) := h
  have HNN : Hid (N ≤ W.heap.size) := hN
  have hfew := h.ok.fewS
  have hpl := plS_le cl K.ss
  obtain ⟨sa, sc, rfl, -, -⟩ := h.rs.shape
  have HF : Hid (∀ k, k < plS cl K.ss → ∃ h : k < K.ss.length, K.ss[k].cl < cl) := fun k hk => by obtain ⟨h1, h2⟩ := tw_take hk; exact ⟨h1, by simpa using h2⟩
  have HG : Hid (∀ h : plS cl K.ss < K.ss.length, ¬ K.ss[plS cl K.ss].cl < cl) := fun h => by have := tw_stop (f := fun s : Se => decide (s.cl < cl)) (xs := K.ss) h; have h2 : decide (K.ss[plS cl K.ss].cl < cl) = false := this; simpa using h2
  clear h hN
  obtain ⟨W1, HW1⟩ : ∃ W1, Hid ((W.alloc (.cells #[.int .i64 op, .int .i64 cl, .int .i64 sq, .string ⟨ky.toArray⟩, .string ⟨vl.toArray⟩, .string ⟨od.toArray⟩] 44)).alloc (.cells #[.int .i64 0, .string ⟨[].toArray⟩] 40) = W1) := ⟨_, rfl⟩
  have HB1 : Hid (Below W.heap.size W W1) := by rw [← HW1.out]; exact Below.alloc' (Below.alloc' (Below.refl _ _) _) _
  have HC1 : Hid (Dc W1 W.heap.size op cl sq ky vl od) := by rw [← HW1.out]; exact Dc.below (heap_alloc_new W _) ((Below.refl _ _).alloc (Nat.le_refl _) _)
  have HX1 : Hid (Rb W1 (W.heap.size + 1) 0 []) := by rw [← HW1.out]; exact box2 W _ _
  have HP : Hid (K.ss[plS cl K.ss] = ⟨cl, psq, ⟨pco, pva⟩⟩) := hp
  have hkl := hlt0
  clear hp
  have hs1 : ¬ sq = psq := by omega
  have hs1' : (sq == psq) = false := by simpa using hs1
  generalize plS cl K.ss = pl at *
  go_enter Tryz.func15, Tryz.ntmps15
  go_wp2_with fail
  rw [HW1.out]
  refine (HCK.out W1).mono ?_
  rintro e W2 ⟨rfl, hB2⟩
  have HB2 : Hid (Below W.heap.size W W2) := HB1.out.trans (hB2.mono HB1.out.size)
  have HX2 : Hid (Rb W2 (W.heap.size + 1) 0 []) := HX1.out.below hB2
  have HC2 : Hid (Dc W2 W.heap.size op cl sq ky vl od) := HC1.out.below hB2
  have HD2 : Hid (DS N W2 d _ _ K) := HD.out.below HB2.out
  have hd0 : d < W.heap.size := (Array.getElem?_eq_some_iff.1 HD.out.hd).1
  have hdn : ¬ d = W.heap.size + 1 := by omega
  have hdn' : ¬ W.heap.size + 1 = d := by omega
  clear hB2 HB1 HX1 HW1 HCK HC1
  go_wp2
  go_loopw [7] (fun kv wr => ∃ k : Nat, kv = .int .i64 (k : Int) ∧ k ≤ pl ∧ Below W2.heap.size W2 wr) (fun kv _ => pl - (intOf kv).toNat)
  case atStart => exact ⟨0, rfl, Nat.zero_le _, Below.refl _ _⟩
  case round =>
    obtain ⟨k, rfl, hk, hBr⟩ := hrel
    have HBR : Hid (Below W2.heap.size W2 wr) := hBr
    have HDR : Hid (DS N wr d _ _ K) := HD2.out.below hBr
    have HXR : Hid (Rb wr (W.heap.size + 1) 0 []) := HX2.out.below hBr
    have HCR : Hid (Dc wr W.heap.size op cl sq ky vl od) := HC2.out.below hBr
    clear hBr
    obtain ⟨c0, c1⟩ := HDR.out.cells
    obtain ⟨a0, a1, a2, a3, a4, a5⟩ := HCR.out.cells
    dsimp only at a0 a1 a2 a3 a4 a5
    by_cases hlt : k < pl
    · obtain ⟨hkl, hbb⟩ := HF.out k hlt
      have hkl' : (k : Int) < (K.ss.length : Int) := by omega
      have hi0 : (0 : Int) ≤ (k : Int) := by omega
      obtain ⟨g, cp, hv, -, hgl, -, hcell⟩ := HDR.out.rs.at0 (by omega)
      simp only [Value.slice.injEq] at hv
      obtain ⟨hsa, -, -⟩ := hv
      subst hsa
      have x0 := hcell k 0 hkl (by decide)
      generalize K.ss[k] = p at *
      have x0' : wr.cell? ⟨g, k * 4, none⟩ = some (.int .i64 p.cl) := x0
      obtain ⟨pcl, psq, prp⟩ := p
      dsimp only at x0' hbb
      clear hcell x0
      go_wp2_with fail
      go_quiet (fail)
      go_wp2
      go_roundw
      case rel => exact ⟨k + 1, by go_num, by omega, Below.drewN' HBR.out _⟩
      case measure => simp [intOf]; omega
    · obtain rfl : k = pl := by omega
      clear hlt HF
      have hkl' : (k : Int) < (K.ss.length : Int) := by omega
      have hi0 : (0 : Int) ≤ (k : Int) := by omega
      obtain ⟨g, cp, hv, -, hgl, -, hcell⟩ := HDR.out.rs.at0 (by omega)
      simp only [Value.slice.injEq] at hv
      obtain ⟨hsa, -, -⟩ := hv
      subst hsa
      have x0 := hcell k 0 hkl (by decide)
      have x1 := hcell k 1 hkl (by decide)
      have x2 := hcell k 2 hkl (by decide)
      have x3 := hcell k 3 hkl (by decide)
      rw [HP.out] at x0 x1 x2 x3
      have y0 : wr.cell? ⟨g, k * 4, none⟩ = some (.int .i64 cl) := x0
      have y1 : wr.cell? ⟨g, k * 4 + 1, none⟩ = some (.int .i64 psq) := x1
      have y2 : wr.cell? ⟨g, k * 4 + 2, none⟩ = some (.int .i64 pco) := x2
      have y3 : wr.cell? ⟨g, k * 4 + 3, none⟩ = some (.string ⟨pva.toArray⟩) := x3
      have hcc : decide (cl < cl) = false := by simp
      clear hcell x0 x1 x2 x3 HG
      obtain ⟨m0, m1⟩ := HXR.out.cells
      obtain ⟨f0, f1⟩ := HXR.out.free
      have lr : W.heap.size + 1 < wr.heap.size := (Array.getElem?_eq_some_iff.1 HXR.out).1
      go_wp2_with fail
      go_quiet (fail)
      go_wp2_with fail
      go_quiet (fail)
      go_wp2_with fail
      go_quiet (fail)
      go_wp2_with fail
      go_quiet (fail)
      go_wp2
      refine bodyPost_ret (v := .tuple #[.agg #[.int .i64 4, .string ⟨[].toArray⟩], .int .i64 0]) (by simp [results, Tryz.results15, go_sem, m0, m1]) rfl ?_
      exact DoW.keep (r := ⟨4, []⟩) HD.out HNN.out (below_set2 (HB2.out.trans ((Below.drewN' (HBR.out.trans (Below.refl _ _)) _).mono HB2.out.size)) (by omega))

set_option maxRecDepth 100000 in
set_option maxHeartbeats 8000000 in
theorem rdo_full {N : Nat} {W : World} {d : Nat} {vp vs : Value} {K : KV} (h : DS N W d vp vs K) (hN : N ≤ W.heap.size) (op cl sq : Int) (ky vl od : Bs) (hck : ckCommand op cl sq ky vl od = 0) (hun : ∀ h : plS cl K.ss < K.ss.length, ¬ K.ss[plS cl K.ss].cl = cl) (hfl : 32 ≤ K.ss.length) :
    Calls Tryz.prog 15 #[.pointer (some ⟨d, 0, none⟩), .agg #[.int .i64 op, .int .i64 cl, .int .i64 sq, .string ⟨ky.toArray⟩, .string ⟨vl.toArray⟩, .string ⟨od.toArray⟩]] W fun e w' => DoW N W d vp vs K ⟨5, []⟩ 0 e w' := by
  have HCK : Hid (∀ V, Calls Tryz.prog 40 #[.agg #[.int .i64 op, .int .i64 cl, .int .i64 sq, .string ⟨ky.toArray⟩, .string ⟨vl.toArray⟩, .string ⟨od.toArray⟩]] V fun e w' => e = .returned (.int .i64 0) ∧ Below V.heap.size V w') := fun V => by have := refCkCommand_any op cl sq ky vl od V; rw [hck] at this; exact this
  have HD : Hid (DS N W d vp vs K) := h
  have HNN : Hid (N ≤ W.heap.size) := hN
  have hfew := h.ok.fewS
  have hpl := plS_le cl K.ss
  obtain ⟨sa, sc, rfl, -, -⟩ := h.rs.shape
  have HF : Hid (∀ k, k < plS cl K.ss → ∃ h : k < K.ss.length, K.ss[k].cl < cl) := fun k hk => by obtain ⟨h1, h2⟩ := tw_take hk; exact ⟨h1, by simpa using h2⟩
  have HG : Hid (∀ h : plS cl K.ss < K.ss.length, ¬ K.ss[plS cl K.ss].cl < cl) := fun h => by have := tw_stop (f := fun s : Se => decide (s.cl < cl)) (xs := K.ss) h; have h2 : decide (K.ss[plS cl K.ss].cl < cl) = false := this; simpa using h2
  clear h hN
  obtain ⟨W1, HW1⟩ : ∃ W1, Hid ((W.alloc (.cells #[.int .i64 op, .int .i64 cl, .int .i64 sq, .string ⟨ky.toArray⟩, .string ⟨vl.toArray⟩, .string ⟨od.toArray⟩] 44)).alloc (.cells #[.int .i64 0, .string ⟨[].toArray⟩] 40) = W1) := ⟨_, rfl⟩
  have HB1 : Hid (Below W.heap.size W W1) := by rw [← HW1.out]; exact Below.alloc' (Below.alloc' (Below.refl _ _) _) _
  have HC1 : Hid (Dc W1 W.heap.size op cl sq ky vl od) := by rw [← HW1.out]; exact Dc.below (heap_alloc_new W _) ((Below.refl _ _).alloc (Nat.le_refl _) _)
  have HX1 : Hid (Rb W1 (W.heap.size + 1) 0 []) := by rw [← HW1.out]; exact box2 W _ _
  have HUN : Hid (∀ h : plS cl K.ss < K.ss.length, ¬ K.ss[plS cl K.ss].cl = cl) := hun
  clear hun
  have hfl' : (32 : Int) ≤ (K.ss.length : Int) := by omega
  generalize plS cl K.ss = pl at *
  go_enter Tryz.func15, Tryz.ntmps15
  go_wp2_with fail
  rw [HW1.out]
  refine (HCK.out W1).mono ?_
  rintro e W2 ⟨rfl, hB2⟩
  have HB2 : Hid (Below W.heap.size W W2) := HB1.out.trans (hB2.mono HB1.out.size)
  have HX2 : Hid (Rb W2 (W.heap.size + 1) 0 []) := HX1.out.below hB2
  have HC2 : Hid (Dc W2 W.heap.size op cl sq ky vl od) := HC1.out.below hB2
  have HD2 : Hid (DS N W2 d _ _ K) := HD.out.below HB2.out
  have hd0 : d < W.heap.size := (Array.getElem?_eq_some_iff.1 HD.out.hd).1
  have hdn : ¬ d = W.heap.size + 1 := by omega
  have hdn' : ¬ W.heap.size + 1 = d := by omega
  clear hB2 HB1 HX1 HW1 HCK HC1
  go_wp2
  go_loopw [7] (fun kv wr => ∃ k : Nat, kv = .int .i64 (k : Int) ∧ k ≤ pl ∧ Below W2.heap.size W2 wr) (fun kv _ => pl - (intOf kv).toNat)
  case atStart => exact ⟨0, rfl, Nat.zero_le _, Below.refl _ _⟩
  case round =>
    obtain ⟨k, rfl, hk, hBr⟩ := hrel
    have HBR : Hid (Below W2.heap.size W2 wr) := hBr
    have HDR : Hid (DS N wr d _ _ K) := HD2.out.below hBr
    have HXR : Hid (Rb wr (W.heap.size + 1) 0 []) := HX2.out.below hBr
    have HCR : Hid (Dc wr W.heap.size op cl sq ky vl od) := HC2.out.below hBr
    clear hBr
    obtain ⟨c0, c1⟩ := HDR.out.cells
    obtain ⟨a0, a1, a2, a3, a4, a5⟩ := HCR.out.cells
    dsimp only at a0 a1 a2 a3 a4 a5
    by_cases hlt : k < pl
    · obtain ⟨hkl, hbb⟩ := HF.out k hlt
      have hkl' : (k : Int) < (K.ss.length : Int) := by omega
      have hi0 : (0 : Int) ≤ (k : Int) := by omega
      obtain ⟨g, cp, hv, -, hgl, -, hcell⟩ := HDR.out.rs.at0 (by omega)
      simp only [Value.slice.injEq] at hv
      obtain ⟨hsa, -, -⟩ := hv
      subst hsa
      have x0 := hcell k 0 hkl (by decide)
      generalize K.ss[k] = p at *
      have x0' : wr.cell? ⟨g, k * 4, none⟩ = some (.int .i64 p.cl) := x0
      obtain ⟨pcl, psq, prp⟩ := p
      dsimp only at x0' hbb
      clear hcell x0
      go_wp2_with fail
      go_quiet (fail)
      go_wp2
      go_roundw
      case rel => exact ⟨k + 1, by go_num, by omega, Below.drewN' HBR.out _⟩
      case measure => simp [intOf]; omega
    · obtain rfl : k = pl := by omega
      clear hlt HF
      by_cases hkl : k < K.ss.length
      · have hkl' : (k : Int) < (K.ss.length : Int) := by omega
        have hi0 : (0 : Int) ≤ (k : Int) := by omega
        obtain ⟨g, cp, hv, -, hgl, -, hcell⟩ := HDR.out.rs.at0 (by omega)
        simp only [Value.slice.injEq] at hv
        obtain ⟨hsa, -, -⟩ := hv
        subst hsa
        have x0 := hcell k 0 hkl (by decide)
        have hu1 := HUN.out hkl
        have hu2 := HG.out hkl
        generalize K.ss[k] = p at x0 hu1 hu2
        have y0 : wr.cell? ⟨g, k * 4, none⟩ = some (.int .i64 p.cl) := x0
        obtain ⟨pcl, psq, prp⟩ := p
        dsimp only at y0 hu1 hu2
        have hu1' : (pcl == cl) = false := by simpa using hu1
        have hu2' : decide (pcl < cl) = false := by simpa using hu2
        clear hcell x0 HG HUN
        obtain ⟨m0, m1⟩ := HXR.out.cells
        obtain ⟨f0, f1⟩ := HXR.out.free
        have lr : W.heap.size + 1 < wr.heap.size := (Array.getElem?_eq_some_iff.1 HXR.out).1
        go_wp2_with fail
        go_quiet (fail)
        go_wp2_with fail
        go_quiet (fail)
        go_wp2_with fail
        go_quiet (fail)
        go_wp2_with fail
        go_quiet (fail)
        go_wp2
        refine bodyPost_ret (v := .tuple #[.agg #[.int .i64 5, .string ⟨[].toArray⟩], .int .i64 0]) (by simp [results, Tryz.results15, go_sem, m0, m1]) rfl ?_
        exact DoW.keep (r := ⟨5, []⟩) HD.out HNN.out (below_set2 (HB2.out.trans ((Below.drewN' (HBR.out.trans (Below.refl _ _)) _).mono HB2.out.size)) (by omega))

      · have hkl' : decide ((k : Int) < (K.ss.length : Int)) = false := by simp; omega
        have hkl2 : ¬ k < K.ss.length := hkl
        clear HG HUN
        obtain ⟨m0, m1⟩ := HXR.out.cells
        obtain ⟨f0, f1⟩ := HXR.out.free
        have lr : W.heap.size + 1 < wr.heap.size := (Array.getElem?_eq_some_iff.1 HXR.out).1
        go_wp2_with fail
        go_quiet (fail)
        go_wp2_with fail
        go_quiet (fail)
        go_wp2_with fail
        go_quiet (fail)
        go_wp2_with fail
        go_quiet (fail)
        go_wp2
        refine bodyPost_ret (v := .tuple #[.agg #[.int .i64 5, .string ⟨[].toArray⟩], .int .i64 0]) (by simp [results, Tryz.results15, go_sem, m0, m1]) rfl ?_
        exact DoW.keep (r := ⟨5, []⟩) HD.out HNN.out (below_set2 (HB2.out.trans ((Below.drewN' (HBR.out.trans (Below.refl _ _)) _).mono HB2.out.size)) (by omega))

end Go.Proofs.YtglhjgfaelfleaaGreat
namespace Go.Proofs.YtglhjgfaelfleaaGreat
open Go.RowKit
set_option linter.unusedVariables false

/-- At the end the reply is written out. -/
theorem DoW.fin {N : Nat} {W W5 : World} {d q : Nat} {vp0 vs0 vp vs : Value} {K' : KV} {r : Rp} {c : Int} {x : Bs} {u u' : Value} (hd : W5.heap[d]? = some (.cells #[vp, vs] 63 (0, 0))) (hrp : Ro RQ N W5 vp K'.ps) (hrs : Ro RT N W5 vs K'.ss) (low : N ≤ d) (r1 : Ris kP K'.ps) (r2 : Ris kS K'.ss) (ok : K'.Ok) (hB : Out (Xd d vp0 vs0) W W5) (hq : W.heap.size ≤ q) (hqb : Rb W5 q c x) :
    DoW N W d vp0 vs0 K' r 0 (.returned (.tuple #[.agg #[.int .i64 r.code, .string ⟨r.val.toArray⟩], .int .i64 0])) ((W5.setCell ⟨q, 0, none⟩ u).setCell ⟨q, 1, none⟩ u') := by
  have hO2 : Out (fun i => i = q) W5 ((W5.setCell ⟨q, 0, none⟩ u).setCell ⟨q, 1, none⟩ u') := (Out.set (X := fun i => i = q) rfl).put rfl
  have hq' : W5.heap[q]? = some (.cells #[.int .i64 c, .string ⟨x.toArray⟩] 40 (0, 0)) := hqb
  have hdq : d ≠ q := fun e => by subst e; rw [hd] at hq'; cases hq'
  refine ⟨rfl, ⟨vp, vs, (hO2.block d (Array.getElem?_eq_some_iff.1 hd).1 hdq).trans hd, hrp.out hO2 (fun g hg e => hrp.apart hq' (by decide) (e ▸ hg)), hrs.out hO2 (fun g hg e => hrs.apart hq' (by decide) (e ▸ hg)), low, r1, r2, ok⟩, hB.trans hO2 (fun i hi hl => by have hi' : i = q := hi; omega)⟩

set_option maxRecDepth 100000 in
set_option maxHeartbeats 8000000 in
theorem rdo_more {N : Nat} {W : World} {d : Nat} {vp vs : Value} {K : KV} (h : DS N W d vp vs K) (hN : N ≤ W.heap.size) (op cl sq : Int) (ky vl od : Bs) (hck : ckCommand op cl sq ky vl od = 0) (hlt0 : plS cl K.ss < K.ss.length) (psq pco : Int) (pva : Bs) (hp : K.ss[plS cl K.ss] = ⟨cl, psq, ⟨pco, pva⟩⟩) (hs : psq < sq) (K' : KV) (hK' : K' = ⟨(opK K.ps ⟨op, cl, sq, ky, vl, od⟩).1, K.ss.set (plS cl K.ss) ⟨cl, sq, (opK K.ps ⟨op, cl, sq, ky, vl, od⟩).2⟩⟩) (r1 : Ris kP K'.ps) (r2 : Ris kS K'.ss) (hok : K'.Ok) (hop : 2 ≤ op ∧ op ≤ 4) :
    Calls Tryz.prog 15 #[.pointer (some ⟨d, 0, none⟩), .agg #[.int .i64 op, .int .i64 cl, .int .i64 sq, .string ⟨ky.toArray⟩, .string ⟨vl.toArray⟩, .string ⟨od.toArray⟩]] W fun e w' => DoW N W d vp vs K' (opK K.ps ⟨op, cl, sq, ky, vl, od⟩).2 0 e w' := by
  have HCK : Hid (∀ V, Calls Tryz.prog 40 #[.agg #[.int .i64 op, .int .i64 cl, .int .i64 sq, .string ⟨ky.toArray⟩, .string ⟨vl.toArray⟩, .string ⟨od.toArray⟩]] V fun e w' => e = .returned (.int .i64 0) ∧ Below V.heap.size V w') := fun V => by have := refCkCommand_any op cl sq ky vl od V; rw [hck] at this; exact this
  have HD : Hid (DS N W d vp vs K) := h
  have HNN : Hid (N ≤ W.heap.size) := hN
  have hfew := h.ok.fewS
  have hpl := plS_le cl K.ss
  obtain ⟨sa, sc, rfl, -, -⟩ := h.rs.shape
  have HF : Hid (∀ k, k < plS cl K.ss → ∃ h : k < K.ss.length, K.ss[k].cl < cl) := fun k hk => by obtain ⟨h1, h2⟩ := tw_take hk; exact ⟨h1, by simpa using h2⟩
  have HG : Hid (∀ h : plS cl K.ss < K.ss.length, ¬ K.ss[plS cl K.ss].cl < cl) := fun h => by have := tw_stop (f := fun s : Se => decide (s.cl < cl)) (xs := K.ss) h; have h2 : decide (K.ss[plS cl K.ss].cl < cl) = false := this; simpa using h2
  clear h hN
  obtain ⟨W1, HW1⟩ : ∃ W1, Hid ((W.alloc (.cells #[.int .i64 op, .int .i64 cl, .int .i64 sq, .string ⟨ky.toArray⟩, .string ⟨vl.toArray⟩, .string ⟨od.toArray⟩] 44)).alloc (.cells #[.int .i64 0, .string ⟨[].toArray⟩] 40) = W1) := ⟨_, rfl⟩
  have HB1 : Hid (Below W.heap.size W W1) := by rw [← HW1.out]; exact Below.alloc' (Below.alloc' (Below.refl _ _) _) _
  have HC1 : Hid (Dc W1 W.heap.size op cl sq ky vl od) := by rw [← HW1.out]; exact Dc.below (heap_alloc_new W _) ((Below.refl _ _).alloc (Nat.le_refl _) _)
  have HX1 : Hid (Rb W1 (W.heap.size + 1) 0 []) := by rw [← HW1.out]; exact box2 W _ _
  have HP : Hid (K.ss[plS cl K.ss] = ⟨cl, psq, ⟨pco, pva⟩⟩) := hp
  have hkl := hlt0
  clear hp
  have HK' : Hid (K' = ⟨(opK K.ps ⟨op, cl, sq, ky, vl, od⟩).1, K.ss.set (plS cl K.ss) ⟨cl, sq, (opK K.ps ⟨op, cl, sq, ky, vl, od⟩).2⟩⟩) := hK'
  have HR1 : Hid (Ris kP K'.ps) := r1
  have HR2 : Hid (Ris kS K'.ss) := r2
  have HOK : Hid K'.Ok := hok
  have HOP : Hid (2 ≤ op ∧ op ≤ 4) := hop
  clear hK' r1 r2 hok hop
  obtain ⟨pp, hpp⟩ : ∃ p, opK K.ps ⟨op, cl, sq, ky, vl, od⟩ = p := ⟨_, rfl⟩
  obtain ⟨ps', rc, rv⟩ := pp
  have HPP : Hid (opK K.ps ⟨op, cl, sq, ky, vl, od⟩ = (ps', ⟨rc, rv⟩)) := hpp
  rw [hpp]
  rw [hpp] at HK'
  clear hpp
  dsimp only at HK' ⊢
  have hs1 : ¬ sq = psq := by omega
  have hs1' : (sq == psq) = false := by simpa using hs1
  have hs2' : decide (sq < psq) = false := by simp; omega
  clear hs
  generalize plS cl K.ss = pl at *
  go_enter Tryz.func15, Tryz.ntmps15
  go_wp2_with fail
  rw [HW1.out]
  refine (HCK.out W1).mono ?_
  rintro e W2 ⟨rfl, hB2⟩
  have HB2 : Hid (Below W.heap.size W W2) := HB1.out.trans (hB2.mono HB1.out.size)
  have HX2 : Hid (Rb W2 (W.heap.size + 1) 0 []) := HX1.out.below hB2
  have HC2 : Hid (Dc W2 W.heap.size op cl sq ky vl od) := HC1.out.below hB2
  have HD2 : Hid (DS N W2 d _ _ K) := HD.out.below HB2.out
  have hd0 : d < W.heap.size := (Array.getElem?_eq_some_iff.1 HD.out.hd).1
  have hdn : ¬ d = W.heap.size + 1 := by omega
  have hdn' : ¬ W.heap.size + 1 = d := by omega
  clear hB2 HB1 HX1 HW1 HCK HC1
  go_wp2
  go_loopw [7] (fun kv wr => ∃ k : Nat, kv = .int .i64 (k : Int) ∧ k ≤ pl ∧ Below W2.heap.size W2 wr) (fun kv _ => pl - (intOf kv).toNat)
  case atStart => exact ⟨0, rfl, Nat.zero_le _, Below.refl _ _⟩
  case round =>
    obtain ⟨k, rfl, hk, hBr⟩ := hrel
    have HBR : Hid (Below W2.heap.size W2 wr) := hBr
    have HDR : Hid (DS N wr d _ _ K) := HD2.out.below hBr
    have HXR : Hid (Rb wr (W.heap.size + 1) 0 []) := HX2.out.below hBr
    have HCR : Hid (Dc wr W.heap.size op cl sq ky vl od) := HC2.out.below hBr
    clear hBr
    obtain ⟨c0, c1⟩ := HDR.out.cells
    obtain ⟨a0, a1, a2, a3, a4, a5⟩ := HCR.out.cells
    dsimp only at a0 a1 a2 a3 a4 a5
    by_cases hlt : k < pl
    · obtain ⟨hkl, hbb⟩ := HF.out k hlt
      have hkl' : (k : Int) < (K.ss.length : Int) := by omega
      have hi0 : (0 : Int) ≤ (k : Int) := by omega
      obtain ⟨g, cp, hv, -, hgl, -, hcell⟩ := HDR.out.rs.at0 (by omega)
      simp only [Value.slice.injEq] at hv
      obtain ⟨hsa, -, -⟩ := hv
      subst hsa
      have x0 := hcell k 0 hkl (by decide)
      generalize K.ss[k] = p at *
      have x0' : wr.cell? ⟨g, k * 4, none⟩ = some (.int .i64 p.cl) := x0
      obtain ⟨pcl, psq, prp⟩ := p
      dsimp only at x0' hbb
      clear hcell x0
      go_wp2_with fail
      go_quiet (fail)
      go_wp2
      go_roundw
      case rel => exact ⟨k + 1, by go_num, by omega, Below.drewN' HBR.out _⟩
      case measure => simp [intOf]; omega
    · obtain rfl : k = pl := by omega
      clear hlt HF
      have hkl' : (k : Int) < (K.ss.length : Int) := by omega
      have hi0 : (0 : Int) ≤ (k : Int) := by omega
      obtain ⟨g, cp, hv, -, hgl, -, hcell⟩ := HDR.out.rs.at0 (by omega)
      simp only [Value.slice.injEq] at hv
      obtain ⟨hsa, -, -⟩ := hv
      subst hsa
      have x0 := hcell k 0 hkl (by decide)
      have x1 := hcell k 1 hkl (by decide)
      have x2 := hcell k 2 hkl (by decide)
      have x3 := hcell k 3 hkl (by decide)
      rw [HP.out] at x0 x1 x2 x3
      have y0 : wr.cell? ⟨g, k * 4, none⟩ = some (.int .i64 cl) := x0
      have y1 : wr.cell? ⟨g, k * 4 + 1, none⟩ = some (.int .i64 psq) := x1
      have y2 : wr.cell? ⟨g, k * 4 + 2, none⟩ = some (.int .i64 pco) := x2
      have y3 : wr.cell? ⟨g, k * 4 + 3, none⟩ = some (.string ⟨pva.toArray⟩) := x3
      have hcc : decide (cl < cl) = false := by simp
      clear hcell x0 x1 x2 x3 HG
      have HDO : Hid (∀ V, Below wr.heap.size wr V → Calls Tryz.prog 41 #[.pointer (some ⟨d, 0, none⟩), .agg #[.int .i64 op, .int .i64 cl, .int .i64 sq, .string ⟨ky.toArray⟩, .string ⟨vl.toArray⟩, .string ⟨od.toArray⟩]] V fun e w' => DoR N V d vp _ K (ps', ⟨rc, rv⟩) e w') := fun V hB => HPP.out ▸ rdoes_any (HDR.out.below hB) (Nat.le_trans HNN.out (Nat.le_trans HB2.out.size (Nat.le_trans HBR.out.size hB.size))) ⟨op, cl, sq, ky, vl, od⟩ HOP.out
      go_wp2_with fail
      go_quiet (fail)
      go_wp2_with fail
      go_quiet (fail)
      go_wp2_with fail
      go_quiet (fail)
      go_wp2_with fail
      go_quiet (fail)
      go_wp2_with fail
      refine (HDO.out _ (Below.drewN' (Below.refl _ _) _)).mono ?_
      rintro e W3 ⟨rfl, ⟨vp', hd3, hrq3, hrt3⟩, hO3⟩
      have HBV : Hid (Out (Xd d vp (.slice (some ⟨g, 0, none⟩) K.ss.length sc)) W W3) := (Out.of_below (X := Xd d vp (.slice (some ⟨g, 0, none⟩) K.ss.length sc)) (HB2.out.trans ((Below.drewN' HBR.out _).mono HB2.out.size))).trans hO3 (fun i hi _ => hi.elim .inl (fun e => .inr (.inl e)))
      have hcr : wr.heap[W.heap.size]? = some (.cells #[.int .i64 op, .int .i64 cl, .int .i64 sq, .string ⟨ky.toArray⟩, .string ⟨vl.toArray⟩, .string ⟨od.toArray⟩] 44 (0, 0)) := HCR.out
      have hxr : wr.heap[W.heap.size + 1]? = some (.cells #[.int .i64 0, .string ⟨[].toArray⟩] 40 (0, 0)) := HXR.out
      have HC3 : Hid (Dc W3 W.heap.size op cl sq ky vl od) := (hO3.block _ (Array.getElem?_eq_some_iff.1 hcr).1 (fun e => by
        rcases e with e | e
        · omega
        · exact HDR.out.rp.apart hcr (by decide) e)).trans hcr
      have HX3 : Hid (Rb W3 (W.heap.size + 1) 0 []) := (hO3.block _ (Array.getElem?_eq_some_iff.1 hxr).1 (fun e => by
        rcases e with e | e
        · omega
        · exact HDR.out.rp.apart hxr (by decide) e)).trans hxr
      have HZ3 : Hid (W.heap.size + 1 < W3.heap.size) := (Array.getElem?_eq_some_iff.1 HX3.out).1
      have HLOW : Hid (N ≤ d) := HDR.out.low
      clear hO3 HDR HXR HCR HBR HDO hcr hxr c0 c1 a0 a1 a2 a3 a4 a5
      obtain ⟨W4, HW4⟩ : ∃ W4, Hid (W3.alloc (.cells #[.int .i64 rc, .string ⟨rv.toArray⟩] 40) = W4) := ⟨_, rfl⟩
      have HB4 : Hid (Below W3.heap.size W3 W4) := by rw [← HW4.out]; exact (Below.refl _ _).alloc (Nat.le_refl _) _
      have HR4 : Hid (Rb W4 W3.heap.size rc rv) := by rw [← HW4.out]; exact Rb.new _ _ _
      have HX4 : Hid (Rb W4 (W.heap.size + 1) 0 []) := HX3.out.below HB4.out
      have HC4 : Hid (Dc W4 W.heap.size op cl sq ky vl od) := HC3.out.below HB4.out
      have hd4 : W4.heap[d]? = some (.cells #[vp', .slice (some ⟨g, 0, none⟩) K.ss.length sc] 63 (0, 0)) := (HB4.out.block d (Array.getElem?_eq_some_iff.1 hd3).1).trans hd3
      have HD4 : Hid (W4.heap[d]? = some (.cells #[vp', .slice (some ⟨g, 0, none⟩) K.ss.length sc] 63 (0, 0))) := hd4
      have HRQ : Hid (Ro RQ N W4 vp' ps') := hrq3.below HB4.out (Nat.le_refl _)
      have HRT : Hid (Ro RT N W4 (.slice (some ⟨g, 0, none⟩) K.ss.length sc) K.ss) := hrt3.below HB4.out (Nat.le_refl _)
      have HBN : Hid (Out (Xd d vp (.slice (some ⟨g, 0, none⟩) K.ss.length sc)) W W4) := HBV.out.trans (Out.of_below (X := fun _ => False) HB4.out) (fun _ h _ => h.elim)
      have HSZ : Hid (W.heap.size + 1 < W4.heap.size) := (Array.getElem?_eq_some_iff.1 HX4.out).1
      have HQ3 : Hid (W.heap.size + 1 < W3.heap.size) := HZ3.out
      clear hd3 hrq3 hrt3 hd4 HX3 HC3 HBV HZ3
      have HDL := HD4
      have HCL := HC4
      have HRL := HR4
      have HXL := HX4
      have HRTL := HRT
      have HRQL := HRQ
      have HBNL := HBN
      have HSZL := HSZ
      obtain ⟨c0, c1⟩ : W4.cell? ⟨d, 0, none⟩ = some vp' ∧ W4.cell? ⟨d, 1, none⟩ = some (.slice (some ⟨g, 0, none⟩) K.ss.length sc) := by have := HDL.out; constructor <;> (simp only [World.cell?, this]; rfl)
      obtain ⟨a0, a1, a2, a3, a4, a5⟩ := HCL.out.cells
      dsimp only at a0 a1 a2 a3 a4 a5
      obtain ⟨n0, n1⟩ := HRL.out.cells
      have hfz : ∀ j, W4.frozen? ⟨g, k * 4 + j, none⟩ = false := by
        intro j
        rcases HRTL.out.2 with ⟨e, _⟩ | ⟨g', cap', cur, e, _, hb, _⟩
        · cases e
        · cases e; simp [World.frozen?, hb]
      have hfz0 : W4.frozen? ⟨g, k * 4, none⟩ = false := hfz 0
      have hfz1 := hfz 1
      have hfz2 := hfz 2
      have hfz3 := hfz 3
      have hgd : ¬ g = d := fun e => HRTL.out.apart HDL.out (by decide) (by rw [← e]; rfl)
      have hgd' : ¬ d = g := fun e => hgd e.symm
      have hgW : ¬ g = W.heap.size := fun e => HRTL.out.apart HCL.out (by decide) (by rw [← e]; rfl)
      have hgW' : ¬ W.heap.size = g := fun e => hgW e.symm
      have hgX : ¬ g = W.heap.size + 1 := fun e => HRTL.out.apart HXL.out (by decide) (by rw [← e]; rfl)
      have hgX' : ¬ W.heap.size + 1 = g := fun e => hgX e.symm
      have hgQ : ¬ g = W3.heap.size := fun e => HRTL.out.apart HRL.out (by decide) (by rw [← e]; rfl)
      have hgQ' : ¬ W3.heap.size = g := fun e => hgQ e.symm
      have HSET : Hid (Ro RT N (((((W4.setCell ⟨g, k * 4, none⟩ (.int .i64 cl)).setCell ⟨g, k * 4 + 1, none⟩ (.int .i64 sq)).setCell ⟨g, k * 4 + 2, none⟩ (.int .i64 rc)).setCell ⟨g, k * 4 + 3, none⟩ (.string ⟨rv.toArray⟩)).drew) (.slice (some ⟨g, 0, none⟩) K.ss.length sc) ((K.ss).set k ⟨cl, sq, ⟨rc, rv⟩⟩)) := (Ro.setS HRTL.out k (hkl) ⟨cl, sq, ⟨rc, rv⟩⟩).below ((Below.refl _ _).drew) (Nat.le_refl _)
      have HOUT : Hid (Out (fun i => i = g) W4 (((((W4.setCell ⟨g, k * 4, none⟩ (.int .i64 cl)).setCell ⟨g, k * 4 + 1, none⟩ (.int .i64 sq)).setCell ⟨g, k * 4 + 2, none⟩ (.int .i64 rc)).setCell ⟨g, k * 4 + 3, none⟩ (.string ⟨rv.toArray⟩)).drew)) := out4.trans (Out.of_below (X := fun i => i = g) ((Below.refl _ _).drew)) (fun i hi _ => hi)
      clear hfz
      obtain ⟨gz, cz, hvz, -, -, -, hcz⟩ := HRTL.out.at0 (by have := hkl; omega)
      simp only [Value.slice.injEq] at hvz
      obtain ⟨hgz, -, -⟩ := hvz
      have hgz' : g = gz := by simpa using hgz
      subst hgz'
      clear hgz
      obtain ⟨pz, hpz⟩ : ∃ pz, (K.ss)[k]'(hkl) = pz := ⟨_, rfl⟩
      have z0 := hcz k 0 (hkl) (by decide)
      have z1 := hcz k 1 (hkl) (by decide)
      have z2 := hcz k 2 (hkl) (by decide)
      have z3 := hcz k 3 (hkl) (by decide)
      rw [hpz] at z0 z1 z2 z3
      obtain ⟨pz0, pz1, pz2, pz3⟩ := pz
      have z0' : W4.cell? ⟨g, k * 4, none⟩ = some (.int .i64 pz0) := z0
      have z1' : W4.cell? ⟨g, k * 4 + 1, none⟩ = some (.int .i64 pz1) := z1
      have z2' : W4.cell? ⟨g, k * 4 + 2, none⟩ = some (.int .i64 pz2) := z2
      have z3' : W4.cell? ⟨g, k * 4 + 3, none⟩ = some (.string ⟨pz3.toArray⟩) := z3
      clear hcz z0 z1 z2 z3 hpz
      go_wp2_with fail
      rw [HW4.out]
      go_region_held3 (fun w' => w'.cell? ⟨d, 1, none⟩ = some (.slice (some ⟨g, 0, none⟩) K.ss.length sc) ∧ w'.cell? ⟨W.heap.size, 1, none⟩ = some (.int .i64 cl) ∧ w'.cell? ⟨W.heap.size, 2, none⟩ = some (.int .i64 sq) ∧ w'.cell? ⟨W3.heap.size, 0, none⟩ = some (.int .i64 rc) ∧ w'.cell? ⟨W3.heap.size, 1, none⟩ = some (.string ⟨rv.toArray⟩)) (go_keep) (fail)
      have hR5 := HSET.out
      have hO5 := HOUT.out
      generalize ((((W4.setCell ⟨g, k * 4, none⟩ (.int .i64 cl)).setCell ⟨g, k * 4 + 1, none⟩ (.int .i64 sq)).setCell ⟨g, k * 4 + 2, none⟩ (.int .i64 rc)).setCell ⟨g, k * 4 + 3, none⟩ (.string ⟨rv.toArray⟩)).drew = W5 at *
      have hX5 : Rb W5 (W.heap.size + 1) 0 [] := (hO5.block _ (Array.getElem?_eq_some_iff.1 HXL.out).1 hgX').trans HXL.out
      have hQ5 : Rb W5 W3.heap.size rc rv := (hO5.block _ (Array.getElem?_eq_some_iff.1 HRL.out).1 hgQ').trans HRL.out
      have HR5 : Hid (Ro RT N W5 _ _) := hR5
      have HD5 : Hid (W5.heap[d]? = some (.cells #[vp', .slice (some ⟨g, 0, none⟩) K.ss.length sc] 63 (0, 0))) := (hO5.block _ (Array.getElem?_eq_some_iff.1 HDL.out).1 hgd').trans HDL.out
      have HQ5 : Hid (Ro RQ N W5 vp' ps') := HRQL.out.out hO5 (fun g' hg' e => by
        subst e
        rcases HRTL.out.2 with ⟨e, _⟩ | ⟨g'', cap', cur, e, _, hb, _⟩
        · cases e
        · cases e; exact HRQL.out.apart hb (by decide) hg')
      have HBN5 : Hid (Out (Xd d vp (.slice (some ⟨g, 0, none⟩) K.ss.length sc)) W W5) := HBNL.out.trans hO5 (fun i hi hl => by have hi' : i = g := hi; exact .inr (.inr (by rw [hi']; rfl)))
      have HX5 : Hid (Rb W5 (W.heap.size + 1) 0 []) := hX5
      obtain ⟨m0, m1⟩ := hX5.cells
      obtain ⟨f0, f1⟩ := hX5.free
      obtain ⟨q0, q1⟩ := hQ5.cells
      have l5 : W.heap.size + 1 < W5.heap.size := (Array.getElem?_eq_some_iff.1 hX5).1
      have l6 : W3.heap.size < W5.heap.size := (Array.getElem?_eq_some_iff.1 hQ5).1
      have hqx : ¬ W3.heap.size = W.heap.size + 1 := by have := HQ3.out; omega
      have hqx' : ¬ W.heap.size + 1 = W3.heap.size := by have := HQ3.out; omega
      clear hR5 hO5 hX5 hQ5 HSET HOUT hfz0 hfz1 hfz2 hfz3 c0 c1 a0 a1 a2 a3 a4 a5 n0 n1
      go_wp2
      refine bodyPost_ret (v := .tuple #[.agg #[.int .i64 rc, .string ⟨rv.toArray⟩], .int .i64 0]) (by simp [results, Tryz.results15, go_sem, m0, m1]) rfl ?_
      exact DoW.fin (r := ⟨rc, rv⟩) HD5.out (by rw [HK'.out]; exact HQ5.out) (by rw [HK'.out]; exact HR5.out) HLOW.out HR1.out HR2.out HOK.out HBN5.out (Nat.le_succ _) HX5.out
end Go.Proofs.YtglhjgfaelfleaaGreat
namespace Go.Proofs.YtglhjgfaelfleaaGreat
open Go.RowKit
set_option linter.unusedVariables false

theorem set_snd {W : World} {d : Nat} {a b u : Value} {t : TypeId} (h : W.heap[d]? = some (.cells #[a, b] t (0, 0))) : (W.setCell ⟨d, 1, none⟩ u).heap[d]? = some (.cells #[a, u] t (0, 0)) := by
  show (W.heap.modify d _)[d]? = _
  rw [Array.getElem?_eq_getElem (by rw [Array.size_modify]; exact (Array.getElem?_eq_some_iff.1 h).1), Array.getElem_modify_self, (Array.getElem?_eq_some_iff.1 h).2]
  rfl

set_option maxRecDepth 100000 in
set_option maxHeartbeats 8000000 in
theorem rdo_mid {N : Nat} {W : World} {d : Nat} {vp vs : Value} {K : KV} (h : DS N W d vp vs K) (hN : N ≤ W.heap.size) (op cl sq : Int) (ky vl od : Bs) (hck : ckCommand op cl sq ky vl od = 0) (hun : ∀ h : plS cl K.ss < K.ss.length, ¬ K.ss[plS cl K.ss].cl = cl) (hlk : lookS cl K.ss = none) (hfl : K.ss.length < 32) (hmid : plS cl K.ss < K.ss.length) (g0 sc : Nat) (hsc : plS cl K.ss < sc) (hvs : vs = .slice (some ⟨g0, 0, none⟩) K.ss.length sc) (K' : KV) (hK' : K' = ⟨(opK K.ps ⟨op, cl, sq, ky, vl, od⟩).1, putK kS ⟨cl, sq, (opK K.ps ⟨op, cl, sq, ky, vl, od⟩).2⟩ K.ss⟩) (r1 : Ris kP K'.ps) (r2 : Ris kS K'.ss) (hok : K'.Ok) (hop : 2 ≤ op ∧ op ≤ 4) :
    Calls Tryz.prog 15 #[.pointer (some ⟨d, 0, none⟩), .agg #[.int .i64 op, .int .i64 cl, .int .i64 sq, .string ⟨ky.toArray⟩, .string ⟨vl.toArray⟩, .string ⟨od.toArray⟩]] W fun e w' => DoW N W d vp vs K' (opK K.ps ⟨op, cl, sq, ky, vl, od⟩).2 0 e w' := by
  have HCK : Hid (∀ V, Calls Tryz.prog 40 #[.agg #[.int .i64 op, .int .i64 cl, .int .i64 sq, .string ⟨ky.toArray⟩, .string ⟨vl.toArray⟩, .string ⟨od.toArray⟩]] V fun e w' => e = .returned (.int .i64 0) ∧ Below V.heap.size V w') := fun V => by have := refCkCommand_any op cl sq ky vl od V; rw [hck] at this; exact this
  have HD : Hid (DS N W d vp vs K) := h
  have HNN : Hid (N ≤ W.heap.size) := hN
  have hfew := h.ok.fewS
  have hpl := plS_le cl K.ss
  subst hvs
  have HF : Hid (∀ k, k < plS cl K.ss → ∃ h : k < K.ss.length, K.ss[k].cl < cl) := fun k hk => by obtain ⟨h1, h2⟩ := tw_take hk; exact ⟨h1, by simpa using h2⟩
  have HG : Hid (∀ h : plS cl K.ss < K.ss.length, ¬ K.ss[plS cl K.ss].cl < cl) := fun h => by have := tw_stop (f := fun s : Se => decide (s.cl < cl)) (xs := K.ss) h; have h2 : decide (K.ss[plS cl K.ss].cl < cl) = false := this; simpa using h2
  clear h hN
  obtain ⟨W1, HW1⟩ : ∃ W1, Hid ((W.alloc (.cells #[.int .i64 op, .int .i64 cl, .int .i64 sq, .string ⟨ky.toArray⟩, .string ⟨vl.toArray⟩, .string ⟨od.toArray⟩] 44)).alloc (.cells #[.int .i64 0, .string ⟨[].toArray⟩] 40) = W1) := ⟨_, rfl⟩
  have HB1 : Hid (Below W.heap.size W W1) := by rw [← HW1.out]; exact Below.alloc' (Below.alloc' (Below.refl _ _) _) _
  have HC1 : Hid (Dc W1 W.heap.size op cl sq ky vl od) := by rw [← HW1.out]; exact Dc.below (heap_alloc_new W _) ((Below.refl _ _).alloc (Nat.le_refl _) _)
  have HX1 : Hid (Rb W1 (W.heap.size + 1) 0 []) := by rw [← HW1.out]; exact box2 W _ _
  have HUN : Hid (∀ h : plS cl K.ss < K.ss.length, ¬ K.ss[plS cl K.ss].cl = cl) := hun
  clear hun
  have HK' : Hid (K' = ⟨(opK K.ps ⟨op, cl, sq, ky, vl, od⟩).1, putK kS ⟨cl, sq, (opK K.ps ⟨op, cl, sq, ky, vl, od⟩).2⟩ K.ss⟩) := hK'
  have HR1 : Hid (Ris kP K'.ps) := r1
  have HR2 : Hid (Ris kS K'.ss) := r2
  have HOK : Hid K'.Ok := hok
  have HOP : Hid (2 ≤ op ∧ op ≤ 4) := hop
  clear hK' r1 r2 hok hop
  obtain ⟨pp, hpp⟩ : ∃ p, opK K.ps ⟨op, cl, sq, ky, vl, od⟩ = p := ⟨_, rfl⟩
  obtain ⟨ps', rc, rv⟩ := pp
  have HPP : Hid (opK K.ps ⟨op, cl, sq, ky, vl, od⟩ = (ps', ⟨rc, rv⟩)) := hpp
  rw [hpp]
  rw [hpp] at HK'
  clear hpp
  dsimp only at HK' ⊢
  have hfl1 : decide ((32 : Int) ≤ (K.ss.length : Int)) = false := by simp; omega
  have HLK : Hid (lookS cl K.ss = none) := hlk
  have HTL : Hid ((K.ss.take (plS cl K.ss)).length = plS cl K.ss) := by show _ = _; simp; omega
  have HPT : Hid (∀ r : Rp, putK kS ⟨cl, sq, r⟩ K.ss = K.ss.take (plS cl K.ss) ++ ⟨cl, sq, r⟩ :: K.ss.drop (plS cl K.ss)) := fun r => by have := putK_new keySe (x := ⟨cl, sq, r⟩) (totS _) hlk; rw [this]; rfl
  generalize plS cl K.ss = pl at *
  go_enter Tryz.func15, Tryz.ntmps15
  go_wp2_with fail
  rw [HW1.out]
  refine (HCK.out W1).mono ?_
  rintro e W2 ⟨rfl, hB2⟩
  have HB2 : Hid (Below W.heap.size W W2) := HB1.out.trans (hB2.mono HB1.out.size)
  have HX2 : Hid (Rb W2 (W.heap.size + 1) 0 []) := HX1.out.below hB2
  have HC2 : Hid (Dc W2 W.heap.size op cl sq ky vl od) := HC1.out.below hB2
  have HD2 : Hid (DS N W2 d _ _ K) := HD.out.below HB2.out
  have hd0 : d < W.heap.size := (Array.getElem?_eq_some_iff.1 HD.out.hd).1
  have hdn : ¬ d = W.heap.size + 1 := by omega
  have hdn' : ¬ W.heap.size + 1 = d := by omega
  clear hB2 HB1 HX1 HW1 HCK HC1
  go_wp2
  go_loopw [7] (fun kv wr => ∃ k : Nat, kv = .int .i64 (k : Int) ∧ k ≤ pl ∧ Below W2.heap.size W2 wr) (fun kv _ => pl - (intOf kv).toNat)
  case atStart => exact ⟨0, rfl, Nat.zero_le _, Below.refl _ _⟩
  case round =>
    obtain ⟨k, rfl, hk, hBr⟩ := hrel
    have HBR : Hid (Below W2.heap.size W2 wr) := hBr
    have HDR : Hid (DS N wr d _ _ K) := HD2.out.below hBr
    have HXR : Hid (Rb wr (W.heap.size + 1) 0 []) := HX2.out.below hBr
    have HCR : Hid (Dc wr W.heap.size op cl sq ky vl od) := HC2.out.below hBr
    clear hBr
    obtain ⟨c0, c1⟩ := HDR.out.cells
    obtain ⟨a0, a1, a2, a3, a4, a5⟩ := HCR.out.cells
    dsimp only at a0 a1 a2 a3 a4 a5
    by_cases hlt : k < pl
    · obtain ⟨hkl, hbb⟩ := HF.out k hlt
      have hkl' : (k : Int) < (K.ss.length : Int) := by omega
      have hi0 : (0 : Int) ≤ (k : Int) := by omega
      obtain ⟨g, cp, hv, -, hgl, -, hcell⟩ := HDR.out.rs.at0 (by omega)
      simp only [Value.slice.injEq] at hv
      obtain ⟨hsa, -, -⟩ := hv
      have hsa2 : g = g0 := by have : g0 = g := by simpa using hsa
                               exact this.symm
      subst hsa2
      clear hsa
      have x0 := hcell k 0 hkl (by decide)
      generalize K.ss[k] = p at *
      have x0' : wr.cell? ⟨g, k * 4, none⟩ = some (.int .i64 p.cl) := x0
      obtain ⟨pcl, psq, prp⟩ := p
      dsimp only at x0' hbb
      clear hcell x0
      go_wp2_with fail
      go_quiet (fail)
      go_wp2
      go_roundw
      case rel => exact ⟨k + 1, by go_num, by omega, Below.drewN' HBR.out _⟩
      case measure => simp [intOf]; omega
    · obtain rfl : k = pl := by omega
      clear hlt HF
      by_cases hkl : k < K.ss.length
      · have hkl' : (k : Int) < (K.ss.length : Int) := by omega
        have hi0 : (0 : Int) ≤ (k : Int) := by omega
        obtain ⟨g, cp, hv, -, hgl, -, hcell⟩ := HDR.out.rs.at0 (by omega)
        simp only [Value.slice.injEq] at hv
        obtain ⟨hsa, -, -⟩ := hv
        have hsa2 : g0 = g := by simpa using hsa
        subst hsa2
        clear hsa
        have x0 := hcell k 0 hkl (by decide)
        have hu1 := HUN.out hkl
        have hu2 := HG.out hkl
        generalize K.ss[k] = p at x0 hu1 hu2
        have y0 : wr.cell? ⟨g0, k * 4, none⟩ = some (.int .i64 p.cl) := x0
        obtain ⟨pcl, psq, prp⟩ := p
        dsimp only at y0 hu1 hu2
        have hu1' : (pcl == cl) = false := by simpa using hu1
        have hu2' : decide (pcl < cl) = false := by simpa using hu2
        clear hcell x0 HG HUN
        have hk0 : (0 : Int) ≤ (k : Int) := by omega
        have hk1 : (k : Int) ≤ (K.ss.length : Int) := by omega
        have hk2 : (k : Int) ≤ (sc : Int) := by omega
        have HDO : Hid (∀ V, Below wr.heap.size wr V → Calls Tryz.prog 41 #[.pointer (some ⟨d, 0, none⟩), .agg #[.int .i64 op, .int .i64 cl, .int .i64 sq, .string ⟨ky.toArray⟩, .string ⟨vl.toArray⟩, .string ⟨od.toArray⟩]] V fun e w' => DoR N V d vp _ K (ps', ⟨rc, rv⟩) e w') := fun V hB => HPP.out ▸ rdoes_any (HDR.out.below hB) (Nat.le_trans HNN.out (Nat.le_trans HB2.out.size (Nat.le_trans HBR.out.size hB.size))) ⟨op, cl, sq, ky, vl, od⟩ HOP.out
        go_wp2_with fail
        go_quiet (fail)
        go_wp2_with fail
        go_quiet (fail)
        go_wp2_with fail
        go_quiet (fail)
        go_wp2_with fail
        go_quiet (fail)
        go_wp2_with fail
        refine (HDO.out _ (Below.drewN' (Below.refl _ _) _)).mono ?_
        rintro e W3 ⟨rfl, ⟨vp', hd3, hrq3, hrt3⟩, hO3⟩
        have HBV : Hid (Out (Xd d vp (.slice (some ⟨g0, 0, none⟩) K.ss.length sc)) W W3) := (Out.of_below (X := Xd d vp (.slice (some ⟨g0, 0, none⟩) K.ss.length sc)) (HB2.out.trans ((Below.drewN' HBR.out _).mono HB2.out.size))).trans hO3 (fun i hi _ => hi.elim .inl (fun e => .inr (.inl e)))
        have hcr : wr.heap[W.heap.size]? = some (.cells #[.int .i64 op, .int .i64 cl, .int .i64 sq, .string ⟨ky.toArray⟩, .string ⟨vl.toArray⟩, .string ⟨od.toArray⟩] 44 (0, 0)) := HCR.out
        have hxr : wr.heap[W.heap.size + 1]? = some (.cells #[.int .i64 0, .string ⟨[].toArray⟩] 40 (0, 0)) := HXR.out
        have HC3 : Hid (Dc W3 W.heap.size op cl sq ky vl od) := (hO3.block _ (Array.getElem?_eq_some_iff.1 hcr).1 (fun e => by
          rcases e with e | e
          · omega
          · exact HDR.out.rp.apart hcr (by decide) e)).trans hcr
        have HX3 : Hid (Rb W3 (W.heap.size + 1) 0 []) := (hO3.block _ (Array.getElem?_eq_some_iff.1 hxr).1 (fun e => by
          rcases e with e | e
          · omega
          · exact HDR.out.rp.apart hxr (by decide) e)).trans hxr
        have HZ3 : Hid (W.heap.size + 1 < W3.heap.size) := (Array.getElem?_eq_some_iff.1 HX3.out).1
        have HLOW : Hid (N ≤ d) := HDR.out.low
        clear hO3 HDR HXR HCR HBR HDO hcr hxr c0 c1 a0 a1 a2 a3 a4 a5
        obtain ⟨W4, HW4⟩ : ∃ W4, Hid (W3.alloc (.cells #[.int .i64 rc, .string ⟨rv.toArray⟩] 40) = W4) := ⟨_, rfl⟩
        have HB4 : Hid (Below W3.heap.size W3 W4) := by rw [← HW4.out]; exact (Below.refl _ _).alloc (Nat.le_refl _) _
        have HR4 : Hid (Rb W4 W3.heap.size rc rv) := by rw [← HW4.out]; exact Rb.new _ _ _
        have HX4 : Hid (Rb W4 (W.heap.size + 1) 0 []) := HX3.out.below HB4.out
        have HC4 : Hid (Dc W4 W.heap.size op cl sq ky vl od) := HC3.out.below HB4.out
        have hd4 : W4.heap[d]? = some (.cells #[vp', .slice (some ⟨g0, 0, none⟩) K.ss.length sc] 63 (0, 0)) := (HB4.out.block d (Array.getElem?_eq_some_iff.1 hd3).1).trans hd3
        have HD4 : Hid (W4.heap[d]? = some (.cells #[vp', .slice (some ⟨g0, 0, none⟩) K.ss.length sc] 63 (0, 0))) := hd4
        have HRQ : Hid (Ro RQ N W4 vp' ps') := hrq3.below HB4.out (Nat.le_refl _)
        have HRT : Hid (Ro RT N W4 (.slice (some ⟨g0, 0, none⟩) K.ss.length sc) K.ss) := hrt3.below HB4.out (Nat.le_refl _)
        have HBN : Hid (Out (Xd d vp (.slice (some ⟨g0, 0, none⟩) K.ss.length sc)) W W4) := HBV.out.trans (Out.of_below (X := fun _ => False) HB4.out) (fun _ h _ => h.elim)
        have HSZ : Hid (W.heap.size + 1 < W4.heap.size) := (Array.getElem?_eq_some_iff.1 HX4.out).1
        have HQ3 : Hid (W.heap.size + 1 < W3.heap.size) := HZ3.out
        clear hd3 hrq3 hrt3 hd4 HX3 HC3 HBV HZ3
        have HZ : Hid (Below W4.heap.size W4 (W4.alloc (.cells #[] 70))) := (Below.refl _ _).alloc (Nat.le_refl _) _
        have hO0 : Ro RT W4.heap.size (W4.alloc (.cells #[] 70)) (.slice (some ⟨W4.heap.size, 0, none⟩) 0 0) [] :=
          ⟨by simp, .inr ⟨W4.heap.size, 0, #[], rfl, Nat.le_refl _, heap_alloc_new W4 _, by simp, by unfold maxLen; omega, by simp, by simp⟩⟩
        have HO0 : Hid (Ro RT W4.heap.size (W4.alloc (.cells #[] 70)) (.slice (some ⟨W4.heap.size, 0, none⟩) 0 0) []) := hO0
        clear hO0
        have HDC : Hid (∀ V, Below W4.heap.size W4 V → V.cell? ⟨d, 0, none⟩ = some vp' ∧ V.cell? ⟨d, 1, none⟩ = some (.slice (some ⟨g0, 0, none⟩) K.ss.length sc) ∧ V.frozen? ⟨d, 1, none⟩ = false) := fun V hB => by
          have := (hB.block d (Array.getElem?_eq_some_iff.1 HD4.out).1).trans HD4.out
          refine ⟨?_, ?_, ?_⟩
          · simp only [World.cell?, this]; rfl
          · simp only [World.cell?, this]; rfl
          · simp [World.frozen?, this]
        obtain ⟨c0, c1, cf⟩ := HDC.out W4 (Below.refl _ _)
        obtain ⟨a0, a1, a2, a3, a4, a5⟩ := HC4.out.cells
        dsimp only at a0 a1 a2 a3 a4 a5
        have ld : d < W4.heap.size := (Array.getElem?_eq_some_iff.1 HD4.out).1
        have lw : W.heap.size + 1 < W4.heap.size := HSZ.out
        have lw0 : W.heap.size < W4.heap.size := by omega
        have HP1 : Hid (Pc RT W4 (some ⟨g0, 0, none⟩) (K.ss.take k)) := by have := HRT.out.piece rfl 0 k (by omega); show Pc _ _ _ _; simpa using this
        have HPD : Hid (∀ V, Below W4.heap.size W4 V → Pc RT V (some ⟨g0, k * 4, none⟩) (K.ss.drop k)) := fun V hB => by
          have := (HRT.out.below hB (Nat.le_refl _)).piece rfl k (K.ss.length - k) (by omega)
          rw [List.take_of_length_le (by simp)] at this
          exact this
        have hw4 := HW4.out
        go_wp2_with (at_builtin; first | (refine wpList_append_pc RT rfl _ _ rfl W4.heap.size _ [] (K.ss.take k) rfl HO0.out _ _ _ rfl (by rw [HTL.out]) (HP1.out.below HZ.out) (by intro ad e; cases e <;> rfl) (by intro e; first | rfl | cases e) (by simp <;> omega) (by simp) ?_; intro v5 W5 hR5 hg5 ho5; obtain ⟨a5', c5', rfl, -, -⟩ := hR5.shape; rw [List.nil_append, HTL.out] at hR5; have hB5 : Below W4.heap.size W4 W5 := HZ.out.grown hg5 (by simp) (fun q e => by cases e; exact Nat.le_refl _); have HB5 : Hid (Below W4.heap.size W4 W5) := hB5; have HR5 : Hid (Ro RT W4.heap.size W5 (.slice a5' k c5') (K.ss.take k)) := hR5; obtain ⟨a0, a1, a2, a3, a4, a5⟩ := (HC4.out.below hB5).cells; obtain ⟨c0, c1, cf⟩ := HDC.out W5 hB5; have ld5 : d < W5.heap.size := Nat.lt_of_lt_of_le ld hB5.size; have lw5 : W.heap.size + 1 < W5.heap.size := Nat.lt_of_lt_of_le HSZ.out hB5.size; have lw50 : W.heap.size < W5.heap.size := (by omega); dsimp only at a0 a1 a2 a3 a4 a5; clear hR5 hg5 ho5 hB5 HO0 HP1 HZ; rw [List.nil_append, HTL.out]) | (refine wpList_append_ro RT rfl _ _ rfl W4.heap.size (.slice a5' k c5') (K.ss.take k) (⟨cl, 0, ⟨0, []⟩⟩ : Se) rfl HR5.out rfl rfl (by rw [HTL.out]; omega) HB5.out.size ?_; intro v6 W6 hR6 hg6 ho6; obtain ⟨a6', c6', rfl, -, -⟩ := hR6.shape; rw [List.length_append, HTL.out, List.length_singleton] at hR6; have hB6 : Below W4.heap.size W4 W6 := (HB5.out.trans ((Below.refl _ _).alloc HB5.out.size _)).grown hg6 (by have := HB5.out.size; simp; omega) (fun q e => (HR5.out.lt e).1); have HB6 : Hid (Below W4.heap.size W4 W6) := hB6; have HR6 : Hid (Ro RT W4.heap.size W6 (.slice a6' (k + 1) c6') (K.ss.take k ++ [(⟨cl, 0, ⟨0, []⟩⟩ : Se)])) := hR6; obtain ⟨c0, c1, cf⟩ := HDC.out W6 hB6; have ld6 : d < W6.heap.size := Nat.lt_of_lt_of_le ld hB6.size; have lw6 : W.heap.size + 1 < W6.heap.size := Nat.lt_of_lt_of_le HSZ.out hB6.size; clear HB5 HR5 hR6 hg6 ho6 hB6; rw [List.length_append, HTL.out, List.length_singleton]) | (refine wpList_append_pc RT rfl _ _ rfl W4.heap.size (.slice a6' (k + 1) c6') (K.ss.take k ++ [(⟨cl, 0, ⟨0, []⟩⟩ : Se)]) (K.ss.drop k) rfl HR6.out _ _ _ rfl (by simp <;> omega) (HPD.out _ HB6.out) (by intro ad e; cases e <;> rfl) (by intro e; first | rfl | cases e) (by simp <;> omega) HB6.out.size ?_; intro v7 W7 hR7 hg7 ho7; have hB7 : Below W4.heap.size W4 W7 := HB6.out.grown hg7 HB6.out.size (fun q e => (HR6.out.lt e).1); have HB7 : Hid (Below W4.heap.size W4 W7) := hB7; obtain ⟨xs, hxs⟩ : ∃ xs, K.ss.take k ++ [(⟨cl, 0, ⟨0, []⟩⟩ : Se)] ++ K.ss.drop k = xs := ⟨_, rfl⟩; have HXS : Hid (xs.length = K.ss.length + 1 ∧ xs.set k ⟨cl, sq, ⟨rc, rv⟩⟩ = K.ss.take k ++ (⟨cl, sq, ⟨rc, rv⟩⟩ : Se) :: K.ss.drop k) := (by rw [← hxs]; exact ⟨by simp <;> omega, by rw [List.append_assoc, List.set_append_right _ _ (by rw [HTL.out]; exact Nat.le_refl _), HTL.out, Nat.sub_self]; rfl⟩); rw [hxs] at hR7; obtain ⟨g, c7, hv7, -, -, -, -⟩ := hR7.at0 (by rw [HXS.out.1]; omega); subst hv7; have HR7 : Hid (Ro RT W4.heap.size W7 (.slice (some ⟨g, 0, none⟩) xs.length c7) xs) := hR7; obtain ⟨c0, c1, cf⟩ := HDC.out W7 hB7; have ld7 : d < W7.heap.size := Nat.lt_of_lt_of_le ld hB7.size; clear hR7 hg7 ho7 hB7 hxs))
        clear hw4
        have hR7 := HR7.out
        have hkx : k < xs.length := by rw [HXS.out.1]; omega
        have HXL0 : Hid (xs.length = K.ss.length + 1) := HXS.out.1
        obtain ⟨W8, HW8⟩ : ∃ W8, Hid (W7.setCell ⟨d, 1, none⟩ (.slice (some ⟨g, 0, none⟩) xs.length c7) = W8) := ⟨_, rfl⟩
        have hO8 : Out (fun i => i = d) W7 W8 := by rw [← HW8.out]; exact Out.set rfl
        have hd7 := (HB7.out.block d (Array.getElem?_eq_some_iff.1 HD4.out).1).trans HD4.out
        have HDL : Hid (W8.heap[d]? = some (.cells #[vp', .slice (some ⟨g, 0, none⟩) xs.length c7] 63 (0, 0))) := by rw [← HW8.out]; exact set_snd hd7
        have HCL : Hid (Dc W8 W.heap.size op cl sq ky vl od) := (hO8.block _ (Array.getElem?_eq_some_iff.1 (HC4.out.below HB7.out)).1 (by show ¬ _ = d; omega)).trans (HC4.out.below HB7.out)
        have HXL : Hid (Rb W8 (W.heap.size + 1) 0 []) := (hO8.block _ (Array.getElem?_eq_some_iff.1 (HX4.out.below HB7.out)).1 (by show ¬ _ = d; omega)).trans (HX4.out.below HB7.out)
        have HRL : Hid (Rb W8 W3.heap.size rc rv) := (hO8.block _ (Array.getElem?_eq_some_iff.1 (HR4.out.below HB7.out)).1 (by show ¬ _ = d; have := HQ3.out; omega)).trans (HR4.out.below HB7.out)
        have hN4 : N ≤ W4.heap.size := by have := HNN.out; have := HSZ.out; omega
        have HRTL : Hid (Ro RT N W8 (.slice (some ⟨g, 0, none⟩) xs.length c7) xs) := (hR7.base hN4).out hO8 (fun g' hg' e => by have e' : g' = d := e; have e2 : g = g' := (by simpa [Value.ownBlock] using hg'); have h8 : W4.heap.size ≤ g := (hR7.lt (g := g) rfl).1; omega)
        have HRQL : Hid (Ro RQ N W8 vp' ps') := (HRQ.out.below HB7.out (Nat.le_refl _)).out hO8 (fun g' hg' e => by have e' : g' = d := e; subst e'; exact (HRQ.out.below HB7.out (Nat.le_refl _)).apart hd7 (by decide) hg')
        have HBNL : Hid (Out (Xd d vp (.slice (some ⟨g0, 0, none⟩) K.ss.length sc)) W W8) := (HBN.out.trans (Out.of_below (X := fun _ => False) HB7.out) (fun _ h _ => h.elim)).trans hO8 (fun i hi _ => .inl hi)
        have HGW : Hid (W.heap.size ≤ g) := by show _ ≤ _; have h8 : W4.heap.size ≤ g := (hR7.lt (g := g) rfl).1; have := HSZ.out; omega
        have HSZL : Hid (W.heap.size + 1 < W8.heap.size) := (Array.getElem?_eq_some_iff.1 HXL.out).1
        have hkx' : ((k : Nat) : Int) < (xs.length : Int) := by omega
        have hkx0 : (0 : Int) ≤ ((k : Nat) : Int) := by omega
        rw [HW8.out]
        clear hR7 hO8 hd7 HR7 HB7 c0 c1 cf HPD HDC
        obtain ⟨c0, c1⟩ : W8.cell? ⟨d, 0, none⟩ = some vp' ∧ W8.cell? ⟨d, 1, none⟩ = some (.slice (some ⟨g, 0, none⟩) xs.length c7) := by have := HDL.out; constructor <;> (simp only [World.cell?, this]; rfl)
        obtain ⟨a0, a1, a2, a3, a4, a5⟩ := HCL.out.cells
        dsimp only at a0 a1 a2 a3 a4 a5
        obtain ⟨n0, n1⟩ := HRL.out.cells
        have hfz : ∀ j, W8.frozen? ⟨g, k * 4 + j, none⟩ = false := by
          intro j
          rcases HRTL.out.2 with ⟨e, _⟩ | ⟨g', cap', cur, e, _, hb, _⟩
          · cases e
          · cases e; simp [World.frozen?, hb]
        have hfz0 : W8.frozen? ⟨g, k * 4, none⟩ = false := hfz 0
        have hfz1 := hfz 1
        have hfz2 := hfz 2
        have hfz3 := hfz 3
        have hgd : ¬ g = d := fun e => HRTL.out.apart HDL.out (by decide) (by rw [← e]; rfl)
        have hgd' : ¬ d = g := fun e => hgd e.symm
        have hgW : ¬ g = W.heap.size := fun e => HRTL.out.apart HCL.out (by decide) (by rw [← e]; rfl)
        have hgW' : ¬ W.heap.size = g := fun e => hgW e.symm
        have hgX : ¬ g = W.heap.size + 1 := fun e => HRTL.out.apart HXL.out (by decide) (by rw [← e]; rfl)
        have hgX' : ¬ W.heap.size + 1 = g := fun e => hgX e.symm
        have hgQ : ¬ g = W3.heap.size := fun e => HRTL.out.apart HRL.out (by decide) (by rw [← e]; rfl)
        have hgQ' : ¬ W3.heap.size = g := fun e => hgQ e.symm
        have HSET : Hid (Ro RT N (((((W8.setCell ⟨g, k * 4, none⟩ (.int .i64 cl)).setCell ⟨g, k * 4 + 1, none⟩ (.int .i64 sq)).setCell ⟨g, k * 4 + 2, none⟩ (.int .i64 rc)).setCell ⟨g, k * 4 + 3, none⟩ (.string ⟨rv.toArray⟩)).drew) (.slice (some ⟨g, 0, none⟩) xs.length c7) ((xs).set k ⟨cl, sq, ⟨rc, rv⟩⟩)) := (Ro.setS HRTL.out k (hkx) ⟨cl, sq, ⟨rc, rv⟩⟩).below ((Below.refl _ _).drew) (Nat.le_refl _)
        have HOUT : Hid (Out (fun i => i = g) W8 (((((W8.setCell ⟨g, k * 4, none⟩ (.int .i64 cl)).setCell ⟨g, k * 4 + 1, none⟩ (.int .i64 sq)).setCell ⟨g, k * 4 + 2, none⟩ (.int .i64 rc)).setCell ⟨g, k * 4 + 3, none⟩ (.string ⟨rv.toArray⟩)).drew)) := out4.trans (Out.of_below (X := fun i => i = g) ((Below.refl _ _).drew)) (fun i hi _ => hi)
        clear hfz
        obtain ⟨gz, cz, hvz, -, -, -, hcz⟩ := HRTL.out.at0 (by have := hkx; omega)
        simp only [Value.slice.injEq] at hvz
        obtain ⟨hgz, -, -⟩ := hvz
        have hgz' : g = gz := by simpa using hgz
        subst hgz'
        clear hgz
        obtain ⟨pz, hpz⟩ : ∃ pz, (xs)[k]'(hkx) = pz := ⟨_, rfl⟩
        have z0 := hcz k 0 (hkx) (by decide)
        have z1 := hcz k 1 (hkx) (by decide)
        have z2 := hcz k 2 (hkx) (by decide)
        have z3 := hcz k 3 (hkx) (by decide)
        rw [hpz] at z0 z1 z2 z3
        obtain ⟨pz0, pz1, pz2, pz3⟩ := pz
        have z0' : W8.cell? ⟨g, k * 4, none⟩ = some (.int .i64 pz0) := z0
        have z1' : W8.cell? ⟨g, k * 4 + 1, none⟩ = some (.int .i64 pz1) := z1
        have z2' : W8.cell? ⟨g, k * 4 + 2, none⟩ = some (.int .i64 pz2) := z2
        have z3' : W8.cell? ⟨g, k * 4 + 3, none⟩ = some (.string ⟨pz3.toArray⟩) := z3
        clear hcz z0 z1 z2 z3 hpz
        go_wp2_with fail
        go_region_held3 (fun w' => w'.cell? ⟨d, 1, none⟩ = some (.slice (some ⟨g, 0, none⟩) xs.length c7) ∧ w'.cell? ⟨W.heap.size, 1, none⟩ = some (.int .i64 cl) ∧ w'.cell? ⟨W.heap.size, 2, none⟩ = some (.int .i64 sq) ∧ w'.cell? ⟨W3.heap.size, 0, none⟩ = some (.int .i64 rc) ∧ w'.cell? ⟨W3.heap.size, 1, none⟩ = some (.string ⟨rv.toArray⟩)) (go_keep) (fail)
        have hR5 := HSET.out
        have hO5 := HOUT.out
        generalize ((((W8.setCell ⟨g, k * 4, none⟩ (.int .i64 cl)).setCell ⟨g, k * 4 + 1, none⟩ (.int .i64 sq)).setCell ⟨g, k * 4 + 2, none⟩ (.int .i64 rc)).setCell ⟨g, k * 4 + 3, none⟩ (.string ⟨rv.toArray⟩)).drew = W5 at *
        have hX5 : Rb W5 (W.heap.size + 1) 0 [] := (hO5.block _ (Array.getElem?_eq_some_iff.1 HXL.out).1 hgX').trans HXL.out
        have hQ5 : Rb W5 W3.heap.size rc rv := (hO5.block _ (Array.getElem?_eq_some_iff.1 HRL.out).1 hgQ').trans HRL.out
        have HR5 : Hid (Ro RT N W5 _ _) := hR5
        have HD5 : Hid (W5.heap[d]? = some (.cells #[vp', .slice (some ⟨g, 0, none⟩) xs.length c7] 63 (0, 0))) := (hO5.block _ (Array.getElem?_eq_some_iff.1 HDL.out).1 hgd').trans HDL.out
        have HQ5 : Hid (Ro RQ N W5 vp' ps') := HRQL.out.out hO5 (fun g' hg' e => by
          subst e
          rcases HRTL.out.2 with ⟨e, _⟩ | ⟨g'', cap', cur, e, _, hb, _⟩
          · cases e
          · cases e; exact HRQL.out.apart hb (by decide) hg')
        have HBN5 : Hid (Out (Xd d vp (.slice (some ⟨g0, 0, none⟩) K.ss.length sc)) W W5) := HBNL.out.trans hO5 (fun i hi hl => by have hi' : i = g := hi; have := HGW.out; omega)
        have HX5 : Hid (Rb W5 (W.heap.size + 1) 0 []) := hX5
        obtain ⟨m0, m1⟩ := hX5.cells
        obtain ⟨f0, f1⟩ := hX5.free
        obtain ⟨q0, q1⟩ := hQ5.cells
        have l5 : W.heap.size + 1 < W5.heap.size := (Array.getElem?_eq_some_iff.1 hX5).1
        have l6 : W3.heap.size < W5.heap.size := (Array.getElem?_eq_some_iff.1 hQ5).1
        have hqx : ¬ W3.heap.size = W.heap.size + 1 := by have := HQ3.out; omega
        have hqx' : ¬ W.heap.size + 1 = W3.heap.size := by have := HQ3.out; omega
        clear hR5 hO5 hX5 hQ5 HSET HOUT hfz0 hfz1 hfz2 hfz3 c0 c1 a0 a1 a2 a3 a4 a5 n0 n1
        go_wp2
        refine bodyPost_ret (v := .tuple #[.agg #[.int .i64 rc, .string ⟨rv.toArray⟩], .int .i64 0]) (by simp [results, Tryz.results15, go_sem, m0, m1]) rfl ?_
        exact DoW.fin (r := ⟨rc, rv⟩) HD5.out (by rw [HK'.out]; exact HQ5.out) (by rw [HK'.out]; exact (by have := HR5.out; rw [HXS.out.2] at this; rw [HPT.out]; exact this)) HLOW.out HR1.out HR2.out HOK.out HBN5.out (Nat.le_succ _) HX5.out

      · exact absurd hmid hkl
end Go.Proofs.YtglhjgfaelfleaaGreat
