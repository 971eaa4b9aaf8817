/-
  The document's store: Snapshot.
-/
import Derived.Test.YtglhjgfaelfleaaGreatDf
import Derived.Test.YtglhjgfaelfleaaGreatSo
namespace Go.Proofs.YtglhjgfaelfleaaGreat
open Go.RowKit
set_option linter.unusedVariables false

theorem take_flat {α : Type} (f : α → Bs) {xs : List α} {k : Nat} (hk : k < xs.length) : (xs.take (k + 1)).flatMap f = (xs.take k).flatMap f ++ f xs[k] := by rw [List.take_succ_eq_append_getElem hk, List.flatMap_append]; simp
theorem take_len_le {α : Type} (f : α → Bs) (m : Nat) (xs : List α) (k : Nat) (h : ∀ x ∈ xs, (f x).length ≤ m) : ((xs.take k).flatMap f).length ≤ xs.length * m :=
  Nat.le_trans (flat_le f m _ (fun x hx => h x (List.mem_of_mem_take hx))) (Nat.mul_le_mul_right _ (by simp; omega))

set_option maxRecDepth 100000 in
set_option maxHeartbeats 4000000 in
theorem rsnap_any {N : Nat} {W : World} {d : Nat} {vp vs : Value} {K : KV} (h : DS N W d vp vs K) :
    Calls Tryz.prog 36 #[.pointer (some ⟨d, 0, none⟩)] W fun e w' => ∃ u, e = .returned u ∧ Sl w'.heap.size w' u (snapB K) ∧ Below W.heap.size W w' := by
  obtain ⟨pa, pc, rfl, -, -⟩ := h.rp.shape
  obtain ⟨sa, sc, rfl, -, -⟩ := h.rs.shape
  have HD : Hid (∀ V, Below W.heap.size W V → DS N V d (.slice pa K.ps.length pc) (.slice sa K.ss.length sc) K) := fun V hB => h.below hB
  have HPL : Hid (∀ k, ((K.ps.take k).flatMap txP).length ≤ 160000) := fun k => Nat.le_trans (take_len_le txP 1200 K.ps k (fun p hp => txP_len (h.ok.pr p hp))) (by have := h.ok.few; omega)
  have HSL : Hid (∀ k, ((K.ss.take k).flatMap txS).length ≤ 40000) := fun k => Nat.le_trans (take_len_le txS 1200 K.ss k (fun p hp => txS_len (h.ok.se p hp))) (by have := h.ok.fewS; omega)
  have HPR : Hid (∀ p ∈ K.ps, PrOk p) := h.ok.pr
  have HSE : Hid (∀ s ∈ K.ss, SeOk s) := h.ok.se
  have hfew := h.ok.few
  have hfewS := h.ok.fewS
  have HN1 : Hid ((numB K.ps.length).length ≤ 10) := numB_le _
  have HN2 : Hid ((numB K.ss.length).length ≤ 10) := numB_le _
  clear h
  obtain ⟨W1, HW1⟩ : ∃ W1, Hid (W.alloc (.cells #[.slice none 0 0, .int .i64 0] 120) = W1) := ⟨_, rfl⟩
  have HV1 : Hid (Wv W W1 []) := by rw [← HW1.out]; exact newV
  obtain ⟨c0, c1⟩ := (HD.out W1 HV1.out.bel).cells
  go_enter Tryz.func36, Tryz.ntmps36
  have hw1 := HW1.out
  go_wp2_with fail
  clear hw1
  refine (wvInt_any (K.ps.length : Int) HV1.out (by simp) (isNumB_of (by omega))).mono ?_
  rintro e W2 ⟨rfl, hV2⟩
  have HV2 : Hid (Wv W W2 (numB K.ps.length)) := by show Wv _ _ _; simpa using hV2
  clear hV2 HV1 HW1 c0 c1
  go_wp2
  go_loopw [4] (fun kv wr => ∃ k : Nat, kv = .int .i64 (k : Int) ∧ k ≤ K.ps.length ∧ Wv W wr (numB K.ps.length ++ (K.ps.take k).flatMap txP)) (fun kv _ => K.ps.length - (intOf kv).toNat)
  case atStart => exact ⟨0, rfl, Nat.zero_le _, by simpa using HV2.out⟩
  case round =>
    obtain ⟨k, rfl, hk, hV⟩ := hrel
    have HV : Hid (Wv W wr (numB K.ps.length ++ (K.ps.take k).flatMap txP)) := hV
    clear hV HV2
    obtain ⟨c0, c1⟩ := (HD.out wr HV.out.bel).cells
    by_cases hlt : k < K.ps.length
    · have hlt' : (k : Int) < (K.ps.length : Int) := by omega
      have hi0 : (0 : Int) ≤ (k : Int) := by omega
      obtain ⟨g, cp, hv, -, -, -, hcell⟩ := (HD.out wr HV.out.bel).rp.at0 (by omega)
      simp only [Value.slice.injEq] at hv
      obtain ⟨hpa, -, -⟩ := hv
      subst hpa
      have hok := HPR.out _ (List.getElem_mem hlt)
      have HTF : Hid ((K.ps.take (k + 1)).flatMap txP = (K.ps.take k).flatMap txP ++ txP K.ps[k]) := take_flat txP hlt
      have x0 := hcell k 0 hlt (by decide)
      have HC2 : Hid (∀ V, Below W.heap.size W V → V.cell? ⟨d, 0, none⟩ = some (.slice (some ⟨g, 0, none⟩) K.ps.length pc) ∧ V.cell? ⟨g, k * 2 + 1, none⟩ = some (.string ⟨K.ps[k].2.toArray⟩)) := fun V hB => by
        have hDV := HD.out V hB
        refine ⟨hDV.cells.1, ?_⟩
        obtain ⟨g', cp', hv', -, -, -, hcell'⟩ := hDV.rp.at0 (by omega)
        simp only [Value.slice.injEq] at hv'
        obtain ⟨hpa', -, -⟩ := hv'
        cases hpa'
        exact hcell' k 1 hlt (by decide)
      generalize K.ps[k] = p at *
      obtain ⟨p1, p2⟩ := p
      have y0 : wr.cell? ⟨g, k * 2, none⟩ = some (.string ⟨p1.toArray⟩) := x0
      have hk1 := hok.key.2
      have hk2 := hok.val
      have HPK := HPL.out k
      have HPK' : Hid (((K.ps.take k).flatMap txP).length ≤ 160000) := HPK
      dsimp only at hk1 hk2
      clear hcell x0 hok HPK
      go_wp2_with fail
      refine (wvText_any 64 HV.out (by rw [List.length_append]; have := HN1.out; have := HPK'.out; omega) (by omega) (by omega)).mono ?_
      rintro e W3 ⟨rfl, hV3⟩
      have HV3 : Hid (Wv W W3 _) := hV3
      obtain ⟨c0, y1⟩ := HC2.out W3 hV3.bel
      try dsimp only at y1
      clear hV3 HV
      go_wp2_with fail
      refine (wvText_any 1024 HV3.out (by have := HN1.out; have := HPK'.out; have := numB_le p1.length; simp only [List.length_append]; omega) (by omega) (by omega)).mono ?_
      rintro e W4 ⟨rfl, hV4⟩
      have HV4 : Hid (Wv W W4 (numB K.ps.length ++ (K.ps.take (k + 1)).flatMap txP)) := by show Wv _ _ _; rw [HTF.out]; simpa [txP, List.append_assoc] using hV4
      clear hV4 HV3
      go_wp2
      go_roundw
      case rel => exact ⟨k + 1, by go_num, by omega, HV4.out⟩
      case measure => simp [intOf]; omega
    · have hlt' : decide ((k : Int) < (K.ps.length : Int)) = false := by simp; omega
      obtain rfl : k = K.ps.length := by omega
      have HVE : Hid (Wv W wr (numB K.ps.length ++ K.ps.flatMap txP)) := by have := HV.out; rw [List.take_length] at this; exact this
      have HPK : Hid ((K.ps.flatMap txP).length ≤ 160000) := by have := HPL.out K.ps.length; rw [List.take_length] at this; exact this
      obtain ⟨L0, hL0⟩ : ∃ L0, numB K.ps.length ++ K.ps.flatMap txP = L0 := ⟨_, rfl⟩
      have HL0 : Hid (L0.length ≤ 161000) := by show _ ≤ _; rw [← hL0, List.length_append]; have := HN1.out; have := HPK.out; omega
      rw [hL0] at HVE
      have HS0 : Hid (snapB K = L0 ++ numB K.ss.length ++ K.ss.flatMap txS) := by show _ = _; unfold snapB; rw [hL0]
      clear HV hL0 hlt hk
      go_wp2_with fail
      refine (wvInt_any (K.ss.length : Int) HVE.out (by have := HL0.out; omega) (isNumB_of (by omega))).mono ?_
      rintro e W5 ⟨rfl, hV5⟩
      have HV5 : Hid (Wv W W5 (L0 ++ numB K.ss.length)) := by show Wv _ _ _; simpa using hV5
      clear hV5 HVE c0 c1
      go_wp2
      go_loopw [5] (fun kv wr => ∃ k : Nat, kv = .int .i64 (k : Int) ∧ k ≤ K.ss.length ∧ Wv W wr (L0 ++ numB K.ss.length ++ (K.ss.take k).flatMap txS)) (fun kv _ => K.ss.length - (intOf kv).toNat)
      case atStart => exact ⟨0, rfl, Nat.zero_le _, by simpa using HV5.out⟩
      case round =>
        obtain ⟨k, rfl, hk, hV⟩ := hrel
        have HV : Hid (Wv W wr (L0 ++ numB K.ss.length ++ (K.ss.take k).flatMap txS)) := hV
        clear hV HV5
        obtain ⟨c0, c1⟩ := (HD.out wr HV.out.bel).cells
        by_cases hlt : k < K.ss.length
        · have hlt' : (k : Int) < (K.ss.length : Int) := by omega
          have hi0 : (0 : Int) ≤ (k : Int) := by omega
          obtain ⟨g, cp, hv, -, -, -, hcell⟩ := (HD.out wr HV.out.bel).rs.at0 (by omega)
          simp only [Value.slice.injEq] at hv
          obtain ⟨hpa, -, -⟩ := hv
          subst hpa
          have hok := HSE.out _ (List.getElem_mem hlt)
          have HTF : Hid ((K.ss.take (k + 1)).flatMap txS = (K.ss.take k).flatMap txS ++ txS K.ss[k]) := take_flat txS hlt
          have HC2 : Hid (∀ V, Below W.heap.size W V → V.cell? ⟨d, 1, none⟩ = some (.slice (some ⟨g, 0, none⟩) K.ss.length sc) ∧ V.cell? ⟨g, k * 4, none⟩ = some (.int .i64 K.ss[k].cl) ∧ V.cell? ⟨g, k * 4 + 1, none⟩ = some (.int .i64 K.ss[k].sq) ∧ V.cell? ⟨g, k * 4 + 2, none⟩ = some (.int .i64 K.ss[k].rp.code) ∧ V.cell? ⟨g, k * 4 + 3, none⟩ = some (.string ⟨K.ss[k].rp.val.toArray⟩)) := fun V hB => by
            have hDV := HD.out V hB
            obtain ⟨g', cp', hv', -, -, -, hcell'⟩ := hDV.rs.at0 (by omega)
            simp only [Value.slice.injEq] at hv'
            obtain ⟨hpa', -, -⟩ := hv'
            cases hpa'
            exact ⟨hDV.cells.2, hcell' k 0 hlt (by decide), hcell' k 1 hlt (by decide), hcell' k 2 hlt (by decide), hcell' k 3 hlt (by decide)⟩
          generalize K.ss[k] = p at *
          obtain ⟨pcl, psq, pco, pva⟩ := p
          obtain ⟨o1, o2, o3, o4, -⟩ := hok
          dsimp only at o1 o2 o3 o4
          have hco : 0 ≤ pco ∧ pco ≤ 4611686018427387904 := by rcases o3 with e | e | e | e <;> omega
          have HSK : Hid (((K.ss.take k).flatMap txS).length ≤ 40000) := HSL.out k
          have HB0 : Hid ((L0 ++ numB K.ss.length ++ (K.ss.take k).flatMap txS).length ≤ 202000) := by show _ ≤ _; simp only [List.length_append]; have := HL0.out; have := HN2.out; have := HSK.out; omega
          obtain ⟨d1, y0, y1, y2, y3⟩ := HC2.out wr HV.out.bel
          try dsimp only at y0 y1 y2 y3
          clear hcell o3
          go_wp2_with fail
          refine (wvInt_any pcl HV.out (by have := HB0.out; omega) (isNumB_of (by omega))).mono ?_
          rintro e W6 ⟨rfl, hV6⟩
          have HV6 : Hid (Wv W W6 _) := hV6
          obtain ⟨d1, y0, y1, y2, y3⟩ := HC2.out W6 hV6.bel
          try dsimp only at y0 y1 y2 y3
          clear hV6 HV
          go_wp2_with fail
          refine (wvInt_any psq HV6.out (by have := HB0.out; have := numB_le pcl.toNat; rw [List.length_append]; omega) (isNumB_of (by omega))).mono ?_
          rintro e W7 ⟨rfl, hV7⟩
          have HV7 : Hid (Wv W W7 _) := hV7
          obtain ⟨d1, y0, y1, y2, y3⟩ := HC2.out W7 hV7.bel
          try dsimp only at y0 y1 y2 y3
          clear hV7 HV6
          go_wp2_with fail
          refine (wvInt_any pco HV7.out (by have := HB0.out; have := numB_le pcl.toNat; have := numB_le psq.toNat; rw [List.length_append, List.length_append]; omega) (isNumB_of hco)).mono ?_
          rintro e W8 ⟨rfl, hV8⟩
          have HV8 : Hid (Wv W W8 _) := hV8
          obtain ⟨d1, y0, y1, y2, y3⟩ := HC2.out W8 hV8.bel
          try dsimp only at y0 y1 y2 y3
          clear hV8 HV7
          go_wp2_with fail
          refine (wvText_any 1024 HV8.out (by have := HB0.out; have := numB_le pcl.toNat; have := numB_le psq.toNat; have := numB_le pco.toNat; rw [List.length_append, List.length_append, List.length_append]; omega) (by omega) (by omega)).mono ?_
          rintro e W9 ⟨rfl, hV9⟩
          have HV9 : Hid (Wv W W9 (L0 ++ numB K.ss.length ++ (K.ss.take (k + 1)).flatMap txS)) := by show Wv _ _ _; rw [HTF.out]; simpa [txS, List.append_assoc] using hV9
          clear hV9 HV8
          go_wp2
          go_roundw
          case rel => exact ⟨k + 1, by go_num, by omega, HV9.out⟩
          case measure => simp [intOf]; omega
        · have hlt' : decide ((k : Int) < (K.ss.length : Int)) = false := by simp; omega
          obtain rfl : k = K.ss.length := by omega
          have HVE : Hid (Wv W wr (snapB K)) := by have := HV.out; rw [List.take_length] at this; rw [HS0.out]; exact this
          clear HV hlt hk
          go_wp2_with fail
          refine (wvDone_any HVE.out).mono ?_
          rintro e WE ⟨u, rfl, hS, hB⟩
          obtain ⟨ua, uc, hue, hu2, hu3, hu4⟩ := id hS
          have HS : Hid (Sl WE.heap.size WE u (snapB K)) := hS
          have HB : Hid (Below W.heap.size W WE) := hB
          clear hS hB hu2 hu3 hu4 hue
          go_wp2
          go_ret
          exact ⟨_, rfl, HS.out, HB.out⟩
end Go.Proofs.YtglhjgfaelfleaaGreat

namespace Go.Proofs.YtglhjgfaelfleaaGreat
open Go.RowKit
set_option linter.unusedVariables false

set_option maxRecDepth 100000 in
set_option maxHeartbeats 4000000 in
theorem ses_any {N M : Nat} {W : World} {d : Nat} {vp vs v : Value} {K : KV} (h : DS N W d vp vs K) (hv : Ro RS M W v K.ss) :
    Calls Tryz.prog 34 #[v, .pointer (some ⟨d, 0, none⟩)] W fun e w' => e = .returned (.bool true) ∧ Below W.heap.size W w' := by
  obtain ⟨sa, sc, rfl, -, -⟩ := h.rs.shape
  obtain ⟨va, vc, rfl, -, -⟩ := hv.shape
  have HD : Hid (∀ V, Below W.heap.size W V → DS N V d vp (.slice sa K.ss.length sc) K) := fun V hB => h.below hB
  have HV : Hid (∀ V, Below W.heap.size W V → Ro RS M V (.slice va K.ss.length vc) K.ss) := fun V hB => hv.below hB (Nat.le_refl _)
  have hfewS := h.ok.fewS
  obtain ⟨c0, c1⟩ := h.cells
  clear h hv
  go_enter Tryz.func34, Tryz.ntmps34
  go_wp2
  go_loopw [5] (fun kv wr => ∃ k : Nat, kv = .int .i64 (k : Int) ∧ k ≤ K.ss.length ∧ Below W.heap.size W wr) (fun kv _ => K.ss.length - (intOf kv).toNat)
  case atStart => exact ⟨0, rfl, Nat.zero_le _, Below.refl _ _⟩
  case round =>
    obtain ⟨k, rfl, hk, hB⟩ := hrel
    have HB : Hid (Below W.heap.size W wr) := hB
    clear c0 c1
    obtain ⟨c0, c1⟩ := (HD.out wr hB).cells
    by_cases hlt : k < K.ss.length
    · have hlt' : (k : Int) < (K.ss.length : Int) := by omega
      have hi0 : (0 : Int) ≤ (k : Int) := by omega
      obtain ⟨g, cp, hv1, -, -, -, hcell⟩ := (HD.out wr hB).rs.at0 (by omega)
      simp only [Value.slice.injEq] at hv1
      obtain ⟨hpa, -, -⟩ := hv1
      subst hpa
      obtain ⟨g2, cp2, hv2, -, -, -, hcell2⟩ := (HV.out wr hB).at0 (by omega)
      simp only [Value.slice.injEq] at hv2
      obtain ⟨hpa2, -, -⟩ := hv2
      subst hpa2
      have x0 := hcell k 0 hlt (by decide)
      have x1 := hcell k 1 hlt (by decide)
      have x2 := hcell k 2 hlt (by decide)
      have x3 := hcell k 3 hlt (by decide)
      have z0 := hcell2 k 0 hlt (by decide)
      have z1 := hcell2 k 1 hlt (by decide)
      have z2 := hcell2 k 2 hlt (by decide)
      have z3 := hcell2 k 3 hlt (by decide)
      generalize K.ss[k] = p at *
      obtain ⟨pcl, psq, pco, pva⟩ := p
      have x0' : wr.cell? ⟨g, k * 4, none⟩ = some (.int .i64 pcl) := x0
      have x1' : wr.cell? ⟨g, k * 4 + 1, none⟩ = some (.int .i64 psq) := x1
      have x2' : wr.cell? ⟨g, k * 4 + 2, none⟩ = some (.int .i64 pco) := x2
      have x3' : wr.cell? ⟨g, k * 4 + 3, none⟩ = some (.string ⟨pva.toArray⟩) := x3
      have z0' : wr.cell? ⟨g2, k * 4, none⟩ = some (.int .i64 pcl) := z0
      have z1' : wr.cell? ⟨g2, k * 4 + 1, none⟩ = some (.int .i64 psq) := z1
      have z2' : wr.cell? ⟨g2, k * 4 + 2, none⟩ = some (.int .i64 pco) := z2
      have z3' : wr.cell? ⟨g2, k * 4 + 3, none⟩ = some (.string ⟨pva.toArray⟩) := z3
      clear hcell hcell2 x0 x1 x2 x3 z0 z1 z2 z3 hB
      go_wp2_with fail
      go_quiet (fail)
      go_wp2
      go_roundw
      case rel => exact ⟨k + 1, by go_num, by omega, Below.drewN' HB.out _⟩
      case measure => simp [intOf]; omega
    · have hlt' : decide ((k : Int) < (K.ss.length : Int)) = false := by simp; omega
      clear hB
      go_wp2
      go_ret
      exact ⟨rfl, HB.out⟩
end Go.Proofs.YtglhjgfaelfleaaGreat

namespace Go.Proofs.YtglhjgfaelfleaaGreat
open Go.RowKit Go.Shelf
attribute [local go_sem] Oper.semAt_some
set_option linter.unusedVariables false

def encG (x : Bs) : List Value := [.string ⟨x.toArray⟩]
def RG : RK Bs := ⟨9, 80, 1, 16, .string ⟨[].toArray⟩, encG, fun _ => rfl, fun x v hv => by simp [encG] at hv; subst hv; rfl, by decide, Tryz.underlying80, by kernel_rfl, rfl, by decide⟩
theorem encG_map (xs : List Bs) : xs.flatMap encG = xs.map (fun x => .string ⟨x.toArray⟩) := by induction xs with | nil => rfl | cons x q ih => simp [encG, ih]

/-- Between two rounds: the keys that have come. -/
def KyI (w : World) (B : Nat) (pre : List (Bs × Bs)) (W : World) : Prop := (∃ v, Boxed W B 80 v ∧ W.ownsRow w.heap.size 9 1 v pre.length (pre.map (fun p => .string ⟨p.1.toArray⟩)) ∧ True) ∧ Below w.heap.size w W
theorem kyI_own (w : World) (B B0 : Nat) (hB : w.heap.size ≤ B0) : OwnFrom B0 (KyI w B) :=
  OwnFrom.and (Own.from (holdsRow_own w.heap.size B 80 9 1 (fun pre : List (Bs × Bs) => pre.length) (fun pre => pre.map (fun p => .string ⟨p.1.toArray⟩)) (fun _ _ => True)) _) (fun s X Y row h hg hr => h.grown hg h.size (fun k e => by have := (hr k e).1; omega))

theorem keepP_of {W w1 : World} {B N : Nat} {v v' : Value} {n : Nat} {xs : List Value} {tmp : Obj} (hb : Boxed W B 80 v) (hr : W.ownsRow N 9 1 v n xs) (hg : (W.alloc tmp).grownBy w1 v.ownBlock) : KeepP W (w1.setCell ⟨B, 0, none⟩ v') := by
  refine ⟨Nat.le_trans (Nat.le_trans (by simp) hg.size) (by simp), fun i c z hi => ?_⟩
  have hil := (Array.getElem?_eq_some_iff.1 hi).1
  have h1 : (W.alloc tmp).heap[i]? = some (.cells c 74 z) := (Below.heap_alloc _ _ _ hil).trans hi
  have h2 : w1.heap[i]? = some (.cells c 74 z) := (hg.block i (by simp; omega) (fun e => by
    rcases hr.2 with ⟨rfl, _⟩ | ⟨g, cap, cur, rfl, _, hgb, _⟩
    · simp [Value.ownBlock] at e
    · have : g = i := by simpa [Value.ownBlock] using e.symm
      subst this
      rw [hi] at hgb; cases hgb)).trans h1
  refine (heap_setCell_other w1 ⟨B, 0, none⟩ i _ (fun e => ?_)).trans h2
  have e' : i = B := e
  subst e'
  rw [show W.heap[i]? = _ from hb] at hi
  cases hi

set_option maxRecDepth 100000 in
set_option maxHeartbeats 4000000 in
theorem keys_any {w : World} {b mp ms : Nat} {K : KV} (h : St w b mp ms K) :
    Calls Tryz.prog 32 #[.pointer (some ⟨b, 0, none⟩)] w fun e w' => ∃ v, e = .returned v ∧ Ro RG w.heap.size w' v (K.ps.map Prod.fst) ∧ Below w.heap.size w w' := by
  refine (callsIn_wide (n := 9)).1 ?_
  have HST : Hid (∀ W, Below w.heap.size w W → St W b mp ms K) := fun W hB => h.below hB
  have hfew := h.ok.few
  clear h
  refine callsIn_of_wp_marks Tryz.func32 rfl trivial ?_ rfl
  simp only [Tryz.ntmps32, List.size_toArray, List.length_cons, List.length_nil, Nat.reduceAdd, Nat.reduceSub, Array.replicate_succ, Array.replicate_zero, List.push_toArray, List.append_toArray, List.nil_append, List.cons_append]
  obtain ⟨W1, hW1⟩ : ∃ W1, w.alloc (.cells #[.slice none 0 0] 80) = W1 := ⟨_, rfl⟩
  have hB1 : Below w.heap.size w W1 := by rw [← hW1]; exact (Below.refl _ _).alloc (Nat.le_refl _) _
  have bx1 : Boxed W1 w.heap.size 80 (.slice none 0 0) := by rw [← hW1]; exact Boxed.new w _ _
  gi_wp2_with (refine ⟨trivial, ?_⟩; gi_at_call 55; refine (callsIn_wide.2 (each_fn b _)).mono ?_; rintro r wz ⟨rfl, hz⟩; subst wz)
  clear hW1
  obtain ⟨W4, hW4⟩ : ∃ W4, (W1.alloc (.cells #[.pointer (some ⟨b, 0, none⟩)] 27)) = W4 := ⟨_, rfl⟩
  have hB4 : Below W1.heap.size W1 W4 := by rw [← hW4]; exact (Below.refl _ _).alloc (Nat.le_refl _) _
  have bx4 : Boxed W4 W1.heap.size 27 (.pointer (some ⟨b, 0, none⟩)) := by rw [← hW4]; exact Boxed.new W1 _ _
  have hBw : Below w.heap.size w W4 := hB1.trans (hB4.mono hB1.size)
  have hI4 : KyI w w.heap.size [] W4 := ⟨⟨_, bx1.kept (Below.grownBy' hB4 none) (by simp), World.ownsRow_nil _ _ _ _, trivial⟩, hBw⟩
  have hz4 : w.heap.size ≤ W4.heap.size := hBw.size
  rw [hW4]
  clear hW4 hB4 bx1 hB1
  refine range_yields (n := 9) (gf := 78) (lb := #[.pointer (some ⟨W1.heap.size, 0, none⟩)]) rfl (enters_of Tryz.func78 (by kernel_rfl) rfl)
    (each_yields 8 (by omega) W1.heap.size b mp ms K W4 bx4 (HST.out _ hBw)) KeepP.trans (fun W l o o' _ hl ho => KeepP.putObj W l o o' hl ho)
    (Below.refl _ _) (fun _ => rfl) (KyI w w.heap.size) (fun _ _ _ => False) (kyI_own _ _ _ hz4) (fun _ _ _ _ _ hs _ _ => hs) (fun _ _ _ _ _ _ hs _ _ => hs) hI4 ?a1x ?assignx ?bodyx ?donex ?stopx
  case assignx =>
    intro l x W K hK
    unfold encY
    gi_wp2
    exact hK
  case bodyx =>
    rintro l' pre ⟨x1, x2⟩ W1' W hI0 hI hq hlt
    obtain ⟨⟨v, hbx, hrow, -⟩, hBW⟩ := hI
    have hcx := hbx.cell
    have hlp : pre.length ≤ 128 := by omega
    have HBX : Hid (Boxed W w.heap.size 80 v) := hbx
    have HRW : Hid (W.ownsRow w.heap.size 9 1 v pre.length (pre.map (fun p => .string ⟨p.1.toArray⟩))) := hrow
    have HBW : Hid (Below w.heap.size w W) := hBW
    have HSZ : Hid (w.heap.size < W.heap.size) := hbx.lt
    clear hI0 hq hlt hI4 bx4 hbx hrow hBW
    obtain ⟨i9, hi9, hy0, hy1, hy2⟩ := info_parts RG.info
    gi_wp2_with (gi_at_builtin; refine wpListIn_append_own_at _ rfl _ _ 80 rfl w.heap.size 9 i9 (.string ⟨[].toArray⟩) 1 16 Tryz.underlying80 hi9 hy0 hy1 hy2 rfl (by decide) _ _ _ rfl (HRW.out.alloc _) ⟨W.heap.size, 0, none⟩ 1 1 [.string ⟨x1.toArray⟩] rfl rfl (cell_one_new _ _ _) (by simp [Value.oneCell']) (by unfold maxLen; omega) (by omega) (by have := HSZ.out; simp; omega) ?_; intro v' w3' hown' hgrow _ hnew; obtain ⟨g', cap', rfl⟩ := ownsRow_succ hown'; obtain ⟨n1, n2, n3, n4, n5⟩ := HBX.out.appended (by decide) HRW.out (Nat.le_of_lt HSZ.out) (Nat.le_refl _) hown' hgrow; have hc3 := n1.cell; have hf3 := n1.frozen; have N2 : Hid (Boxed _ _ _ _) := n2; have N3 : Hid (World.ownsRow _ _ _ _ _ _ _) := n3; have N4 : Hid (KeepsOthers _ _) := n4; have N5 : Hid (Below _ _ _) := n5; have HG3 : Hid (World.grownBy _ w3' _) := hgrow; clear hown' hgrow hnew n1 n2 n3 n4 n5)
    refine ⟨N4.out.from _, ?_, ⟨⟨_, N2.out, by simpa using N3.out, trivial⟩, HBW.out.trans N5.out⟩⟩
    exact keepP_of HBX.out HRW.out HG3.out
  case donex =>
    rintro D xs W hD hS hI hK
    subst hS
    obtain ⟨⟨v, hbx, hrow, -⟩, hBW⟩ := hI
    have hcx := hbx.cell
    have HR : Hid (Ro RG w.heap.size W v (K.ps.map Prod.fst)) := by
      show World.ownsRow _ _ _ _ _ _ _
      have : (K.ps.map Prod.fst).flatMap encG = K.ps.map (fun p => .string ⟨p.1.toArray⟩) := by rw [encG_map, List.map_map]; rfl
      show W.ownsRow w.heap.size 9 1 v (K.ps.map Prod.fst).length ((K.ps.map Prod.fst).flatMap encG)
      rw [this, List.length_map]
      exact hrow
    have HBW : Hid (Below w.heap.size w W) := hBW
    have HK : Hid (W.heap[D]? = some (.deferred (some []))) := hK
    have HHL : Hid (w.heap.size ≤ D) := by show _ ≤ _; omega
    clear hI4 bx4 hbx hrow hBW hK
    gi_wp2
    refine ⟨by simp, .inl ⟨_, _, rfl, run_takeDeferred HK.out, ?_⟩⟩
    refine ⟨_, results_tmp rfl _ _ _, ?_⟩
    refine ⟨v, rfl, ownsRow_putObj HR.out (.deferred none) HK.out rfl, ?_⟩
    exact HBW.out.grown (grownBy_putObj' W D _) HBW.out.size (fun k e => by cases e; exact HHL.out)
  case stopx =>
    rintro D c pre W _ _ h _
    exact h.elim
end Go.Proofs.YtglhjgfaelfleaaGreat
