/-
  Same: is a store as the document's? A store and the document's side by side.
-/
import Derived.Test.YtglhjgfaelfleaaGreatRz
import Derived.Test.YtglhjgfaelfleaaGreatJdn
import Derived.Deep.RegionHeld3
namespace Go.Proofs.YtglhjgfaelfleaaGreat
open Go.RowKit
set_option linter.unusedVariables false

theorem Ro.setK {N : Nat} {w : World} {g n cap : Nat} {xs : List Se} (h : Ro RS N w (.slice (some ⟨g, 0, none⟩) n cap) xs) (i : Nat) (hi : i < xs.length) (s : Se) :
    Ro RS N ((((w.setCell ⟨g, i * 4, none⟩ (.int .i64 s.cl)).setCell ⟨g, i * 4 + 1, none⟩ (.int .i64 s.sq)).setCell ⟨g, i * 4 + 2, none⟩ (.int .i64 s.rp.code)).setCell ⟨g, i * 4 + 3, none⟩ (.string ⟨s.rp.val.toArray⟩)) (.slice (some ⟨g, 0, none⟩) n cap) (xs.set i s) := by
  have h1 := Ro.set (R := RS) h i 0 hi (by decide) (.int .i64 s.cl) ⟨s.cl, xs[i].sq, xs[i].rp⟩ rfl
  have h2 := Ro.set (R := RS) h1 i 1 (by simpa using hi) (by decide) (.int .i64 s.sq) ⟨s.cl, s.sq, xs[i].rp⟩ (by simp [RS, encE])
  have h3 := Ro.set (R := RS) h2 i 2 (by simpa using hi) (by decide) (.int .i64 s.rp.code) ⟨s.cl, s.sq, ⟨s.rp.code, xs[i].rp.val⟩⟩ (by simp [RS, encE])
  have h4 := Ro.set (R := RS) h3 i 3 (by simpa using hi) (by decide) (.string ⟨s.rp.val.toArray⟩) s (by simp [RS, encE])
  rw [List.set_set, List.set_set, List.set_set] at h4
  exact h4
theorem Ro.freeAt {α : Type} {R : RK α} {N : Nat} {w : World} {g n cap : Nat} {xs : List α} (h : Ro R N w (.slice (some ⟨g, 0, none⟩) n cap) xs) (j : Nat) : w.frozen? ⟨g, j, none⟩ = false := by
  rcases h.2 with ⟨e, _⟩ | ⟨g', cap', cur, e, _, hb, _⟩
  · cases e
  · cases e; simp [World.frozen?, hb]
theorem out_belowN {N g : Nat} {w V V' : World} (hB : Below N w V) (hO : Out (fun i => i = g) V V') (hN : N ≤ V.heap.size) (hg : N ≤ g) : Below N w V' :=
  hB.trans ⟨hO.os, hO.tape, hO.output, hO.size, fun i hi => hO.block i (by omega) (fun e => by have e' : i = g := e; omega)⟩
theorem getF_at {K : KV} {k : Nat} (hr : Ris kP K.ps) (hk : k < K.ps.length) : (getF K K.ps[k].1).v = .agg #[.int .i64 1, .string ⟨K.ps[k].2.toArray⟩] := by
  have hl : lookP K.ps[k].1 K.ps = some K.ps[k] := by
    cases hq : lookP K.ps[k].1 K.ps with
    | none =>
      have := lookK_none hq _ (List.getElem_mem hk)
      simp [kP, Lit.sameKey] at this
    | some y =>
      obtain ⟨h1, h2⟩ := lookK_some hq
      rw [key_inj (ris_neP hr) h1 (List.getElem_mem hk) (by rw [WideAt.sameKey_eq h2]; simp [kP])]
  unfold getF
  rw [hl]
  rfl

set_option maxRecDepth 100000 in
set_option maxHeartbeats 8000000 in
theorem sameKv_any {N : Nat} {w : World} {b mp ms d : Nat} {vp vs : Value} {K : KV} (h : St w b mp ms K) (hD : DS N w d vp vs K) :
    Calls Tryz.prog 13 #[.pointer (some ⟨b, 0, none⟩), .pointer (some ⟨d, 0, none⟩)] w fun e w' => e = .returned (.bool true) ∧ Below w.heap.size w w' := by
  obtain ⟨pa, pc, rfl, -, -⟩ := hD.rp.shape
  have HS : Hid (∀ V, Below w.heap.size w V → St V b mp ms K) := fun V hB => h.below hB
  have HD : Hid (∀ V, Below w.heap.size w V → DS N V d (.slice pa K.ps.length pc) vs K) := fun V hB => hD.below hB
  have hfew := h.ok.few
  have hfewS := h.ok.fewS
  have HRP : Hid (Ris kP K.ps) := h.risP
  have HPR : Hid (∀ p ∈ K.ps, PrOk p) := h.ok.pr
  have HSN : Hid ((snapB K).length ≤ 300000) := snapB_len h.ok
  clear h hD
  go_enter Tryz.func13, Tryz.ntmps13
  go_wp2_with fail
  refine (keys_any (HS.out w (Below.refl _ _))).mono ?_
  rintro e W1 ⟨vk, rfl, hrk, hB1⟩
  obtain ⟨ka, kc, rfl, -, -⟩ := hrk.shape
  rw [List.length_map] at hrk
  have HRK : Hid (Ro RG w.heap.size W1 (.slice ka K.ps.length kc) (K.ps.map Prod.fst)) := hrk
  have HB1 : Hid (Below w.heap.size w W1) := hB1
  have CL : ∀ V, V = W1 → Calls Tryz.prog 18 #[.pointer (some ⟨b, 0, none⟩)] V fun e w' => e = .returned (.int .i64 (K.ps.length : Int)) ∧ w' = V := fun V hV => by subst hV; exact len_any (HS.out _ hB1)
  have CL1 : Hid (∀ n, Calls Tryz.prog 18 #[.pointer (some ⟨b, 0, none⟩)] (W1.drewN n) fun e w' => e = .returned (.int .i64 (K.ps.length : Int)) ∧ w' = W1.drewN n) := fun n => len_any (HS.out _ (Below.drewN' hB1 n))
  obtain ⟨c0, c1⟩ := (HD.out W1 hB1).cells
  rw [List.length_map]
  clear hrk hB1 CL
  go_wp2_with fail
  go_quiet ((go_at_call 18; exact Calls.quiet_of_same (CL1.out _)))
  clear CL1 c0 c1
  go_wp2
  go_loopw [6] (fun kv wr => ∃ k : Nat, kv = .int .i64 (k : Int) ∧ k ≤ K.ps.length ∧ Below W1.heap.size W1 wr) (fun kv _ => K.ps.length - (intOf kv).toNat)
  case atStart => exact ⟨0, rfl, Nat.zero_le _, Below.drewN' (Below.refl _ _) _⟩
  case round =>
    obtain ⟨k, rfl, hk, hB⟩ := hrel
    have HBR : Hid (Below W1.heap.size W1 wr) := hB
    have HBW : Hid (Below w.heap.size w wr) := HB1.out.trans (hB.mono HB1.out.size)
    clear hB
    by_cases hlt : k < K.ps.length
    · have hlt' : (k : Int) < (K.ps.length : Int) := by omega
      have hi0 : (0 : Int) ≤ (k : Int) := by omega
      have HCC : Hid (∀ V, Below wr.heap.size wr V → ∃ gp gk, pa = some ⟨gp, 0, none⟩ ∧ ka = some ⟨gk, 0, none⟩ ∧ V.cell? ⟨d, 0, none⟩ = some (.slice pa K.ps.length pc) ∧ V.cell? ⟨gp, k * 2, none⟩ = some (.string ⟨K.ps[k].1.toArray⟩) ∧ V.cell? ⟨gp, k * 2 + 1, none⟩ = some (.string ⟨K.ps[k].2.toArray⟩) ∧ V.cell? ⟨gk, k, none⟩ = some (.string ⟨K.ps[k].1.toArray⟩) ∧ d < V.heap.size ∧ gp < V.heap.size ∧ gk < V.heap.size) := fun V hB => by
        have hDV := HD.out V (HBW.out.trans (hB.mono HBW.out.size))
        obtain ⟨g, cp, hv, -, hgl, -, hcell⟩ := hDV.rp.at0 (by omega)
        have hRV := (HRK.out.below HBR.out (Nat.le_refl _)).below hB (Nat.le_refl _)
        obtain ⟨g2, cp2, hv2, -, hgl2, -, hcell2⟩ := hRV.at0 (by simp; omega)
        simp only [Value.slice.injEq] at hv hv2
        refine ⟨g, g2, hv.1, hv2.1, hDV.cells.1, hcell k 0 hlt (by decide), hcell k 1 hlt (by decide), ?_, (Array.getElem?_eq_some_iff.1 hDV.hd).1, hgl, hgl2⟩
        have := hcell2 k 0 (by simpa using hlt) (by decide)
        simpa [RG, encG] using this
      have CG : ∀ V, Below wr.heap.size wr V → Calls Tryz.prog 17 #[.pointer (some ⟨b, 0, none⟩), .string ⟨K.ps[k].1.toArray⟩] V fun e w' => e = .returned (.agg #[.int .i64 1, .string ⟨K.ps[k].2.toArray⟩]) ∧ Below V.heap.size V w' := fun V hB => by
        have := get_any (HS.out V (HBW.out.trans (hB.mono HBW.out.size))) K.ps[k].1 (by have := (HPR.out _ (List.getElem_mem hlt)).key.2; omega)
        rw [getF_at HRP.out hlt] at this
        exact this
      generalize K.ps[k] = p at *
      obtain ⟨p1, p2⟩ := p
      dsimp only at CG
      have HCG : Hid (∀ V, Below wr.heap.size wr V → Calls Tryz.prog 17 #[.pointer (some ⟨b, 0, none⟩), .string ⟨p1.toArray⟩] V fun e w' => e = .returned (.agg #[.int .i64 1, .string ⟨p2.toArray⟩]) ∧ Below V.heap.size V w') := CG
      obtain ⟨gp, gk, hpa, hka, c0, c1, c2, c3, l1, l2, l3⟩ := HCC.out wr (Below.refl _ _)
      subst hpa
      subst hka
      have HC2 : Hid (∀ V, Below wr.heap.size wr V → V.cell? ⟨d, 0, none⟩ = some (.slice (some ⟨gp, 0, none⟩) K.ps.length pc) ∧ V.cell? ⟨gp, k * 2, none⟩ = some (.string ⟨p1.toArray⟩) ∧ V.cell? ⟨gp, k * 2 + 1, none⟩ = some (.string ⟨p2.toArray⟩) ∧ V.cell? ⟨gk, k, none⟩ = some (.string ⟨p1.toArray⟩) ∧ d < V.heap.size ∧ gp < V.heap.size ∧ gk < V.heap.size) := fun V hB => by
        obtain ⟨gp', gk', e1, e2, r1, r2, r3, r4, r5, r6, r7⟩ := HCC.out V hB
        cases e1; cases e2
        exact ⟨r1, r2, r3, r4, r5, r6, r7⟩
      dsimp only at c1 c2 c3
      clear CG HCC
      go_wp2_with fail
      go_region_held3 (fun w' => w'.cell? ⟨d, 0, none⟩ = some (.slice (some ⟨gp, 0, none⟩) K.ps.length pc) ∧ w'.cell? ⟨gp, k * 2, none⟩ = some (.string ⟨p1.toArray⟩) ∧ w'.cell? ⟨gp, k * 2 + 1, none⟩ = some (.string ⟨p2.toArray⟩) ∧ w'.cell? ⟨gk, k, none⟩ = some (.string ⟨p1.toArray⟩)) (go_keep)
        (first
          | (go_at_call 17; refine (HCG.out _ ((Below.refl _ _).drew)).mono ?_; rintro r w5 ⟨rfl, hB5⟩; have hB5' : Below wr.heap.size wr w5 := ((Below.refl _ wr).drew).trans hB5; obtain ⟨s0, s1, s2, s3, -, -, -⟩ := HC2.out w5 hB5'; have HB5 : Hid (Below wr.heap.size wr w5) := hB5'; clear hB5 hB5')
          | fail)
      all_goals (go_wp2; exact ⟨⟨k + 1, by go_num, by omega, HBR.out.trans (HB5.out.mono HBR.out.size)⟩, by simp [intOf]; omega⟩)
    · have hlt' : decide ((k : Int) < (K.ps.length : Int)) = false := by simp; omega
      have HRK2 : Hid (Ro RG w.heap.size wr (.slice ka K.ps.length kc) (K.ps.map Prod.fst)) := HRK.out.below HBR.out (Nat.le_refl _)
      clear hk HBR HRK HB1
      generalize wr = W2 at *
      go_wp2_with fail
      refine (sessions_any (HS.out W2 HBW.out)).mono ?_
      rintro e W3 ⟨vl, rfl, hrl, hB3⟩
      obtain ⟨la, lc, rfl, -, -⟩ := hrl.shape
      have HB3 : Hid (Below w.heap.size w W3) := HBW.out.trans (hB3.mono HBW.out.size)
      have HRL : Hid (Ro RS w.heap.size W3 (.slice la K.ss.length lc) K.ss) := hrl.base HBW.out.size
      have HRK3 : Hid (Ro RG w.heap.size W3 (.slice ka K.ps.length kc) (K.ps.map Prod.fst)) := HRK2.out.below hB3 (Nat.le_refl _)
      clear hrl hB3 HRK2 HBW
      go_wp2_with fail
      refine (ses_any (HD.out W3 HB3.out) HRL.out).mono ?_
      rintro e W4 ⟨rfl, hB4⟩
      have HB4 : Hid (Below w.heap.size w W4) := HB3.out.trans (hB4.mono HB3.out.size)
      have HRL4 : Hid (Ro RS w.heap.size W4 (.slice la K.ss.length lc) K.ss) := HRL.out.below hB4 (Nat.le_refl _)
      have HRK4 : Hid (Ro RG w.heap.size W4 (.slice ka K.ps.length kc) (K.ps.map Prod.fst)) := HRK3.out.below hB4 (Nat.le_refl _)
      clear hB4 HRL HRK3 HB3
      go_wp2
      go_loopw [9] (fun kv wr => ∃ (k : Nat) (xs : List Se), kv = .int .i64 (k : Int) ∧ k ≤ K.ss.length ∧ xs.length = K.ss.length ∧ Ro RS w.heap.size wr (.slice la K.ss.length lc) xs ∧ Ro RG w.heap.size wr (.slice ka K.ps.length kc) (K.ps.map Prod.fst) ∧ Below w.heap.size w wr) (fun kv _ => K.ss.length - (intOf kv).toNat)
      case atStart => exact ⟨0, _, rfl, Nat.zero_le _, rfl, HRL4.out, HRK4.out, HB4.out⟩
      case round =>
        obtain ⟨k, xs, rfl, hk, hxl, hR, hRk, hB⟩ := hrel
        have HXL : Hid (xs.length = K.ss.length) := hxl
        have HRk : Hid (Ro RG w.heap.size wr (.slice ka K.ps.length kc) (K.ps.map Prod.fst)) := hRk
        have HB : Hid (Below w.heap.size w wr) := hB
        clear hRk hB HRL4 HRK4 HB4
        by_cases hlt : k < K.ss.length
        · have hlt' : (k : Int) < (K.ss.length : Int) := by omega
          have hi0 : (0 : Int) ≤ (k : Int) := by omega
          obtain ⟨g, cp, hv, hgN, hgl, ⟨cur, hcur⟩, hcell⟩ := hR.at0 (by omega)
          simp only [Value.slice.injEq] at hv
          obtain ⟨hla, -, -⟩ := hv
          subst hla
          have hkx : k < xs.length := by omega
          have x0 := hcell k 0 hkx (by decide)
          have x1 := hcell k 1 hkx (by decide)
          have x2 := hcell k 2 hkx (by decide)
          have x3 := hcell k 3 hkx (by decide)
          have HSET := Ro.setK hR k hkx ⟨0, 0, ⟨0, []⟩⟩
          have HO : Out (fun i => i = g) wr ((((wr.setCell ⟨g, k * 4, none⟩ (.int .i64 0)).setCell ⟨g, k * 4 + 1, none⟩ (.int .i64 0)).setCell ⟨g, k * 4 + 2, none⟩ (.int .i64 0)).setCell ⟨g, k * 4 + 3, none⟩ (.string ⟨[].toArray⟩)) := out4
          have hf0 : wr.frozen? ⟨g, k * 4, none⟩ = false := hR.freeAt _
          have hf1 : wr.frozen? ⟨g, k * 4 + 1, none⟩ = false := hR.freeAt _
          have hf2 : wr.frozen? ⟨g, k * 4 + 2, none⟩ = false := hR.freeAt _
          have hf3 : wr.frozen? ⟨g, k * 4 + 3, none⟩ = false := hR.freeAt _
          have HFIN : Hid (∃ (k' : Nat) (xs' : List Se), Value.int .i64 ((k + 1 : Nat) : Int) = .int .i64 (k' : Int) ∧ k' ≤ K.ss.length ∧ xs'.length = K.ss.length ∧ Ro RS w.heap.size ((((wr.setCell ⟨g, k * 4, none⟩ (.int .i64 0)).setCell ⟨g, k * 4 + 1, none⟩ (.int .i64 0)).setCell ⟨g, k * 4 + 2, none⟩ (.int .i64 0)).setCell ⟨g, k * 4 + 3, none⟩ (.string ⟨[].toArray⟩)) (.slice (some ⟨g, 0, none⟩) K.ss.length lc) xs' ∧ Ro RG w.heap.size ((((wr.setCell ⟨g, k * 4, none⟩ (.int .i64 0)).setCell ⟨g, k * 4 + 1, none⟩ (.int .i64 0)).setCell ⟨g, k * 4 + 2, none⟩ (.int .i64 0)).setCell ⟨g, k * 4 + 3, none⟩ (.string ⟨[].toArray⟩)) (.slice ka K.ps.length kc) (K.ps.map Prod.fst) ∧ Below w.heap.size w ((((wr.setCell ⟨g, k * 4, none⟩ (.int .i64 0)).setCell ⟨g, k * 4 + 1, none⟩ (.int .i64 0)).setCell ⟨g, k * 4 + 2, none⟩ (.int .i64 0)).setCell ⟨g, k * 4 + 3, none⟩ (.string ⟨[].toArray⟩))) :=
            ⟨k + 1, _, rfl, by omega, by rw [List.length_set]; exact hxl, HSET, HRk.out.out HO (fun g' hg' e => by have e' : g' = g := e; subst e'; exact HRk.out.apart hcur (by decide) hg'), out_belowN HB.out HO HB.out.size hgN⟩
          generalize xs[k] = p at x0 x1 x2 x3
          obtain ⟨q0, q1, q2, q3⟩ := p
          have y0 : wr.cell? ⟨g, k * 4, none⟩ = some (.int .i64 q0) := x0
          have y1 : wr.cell? ⟨g, k * 4 + 1, none⟩ = some (.int .i64 q1) := x1
          have y2 : wr.cell? ⟨g, k * 4 + 2, none⟩ = some (.int .i64 q2) := x2
          have y3 : wr.cell? ⟨g, k * 4 + 3, none⟩ = some (.string ⟨q3.toArray⟩) := x3
          clear hcell x0 x1 x2 x3 HSET HO hR hxl hcur hkx
          go_wp2
          exact ⟨HFIN.out, by simp [intOf]; omega⟩
        · have hlt' : decide ((k : Int) < (K.ss.length : Int)) = false := by simp; omega
          clear hR hxl HXL hk
          generalize wr = W5 at *
          go_wp2
          go_loopw [10] (fun kv wr => ∃ (k : Nat) (ys : List Bs), kv = .int .i64 (k : Int) ∧ k ≤ K.ps.length ∧ ys.length = K.ps.length ∧ Ro RG w.heap.size wr (.slice ka K.ps.length kc) ys ∧ Below w.heap.size w wr) (fun kv _ => K.ps.length - (intOf kv).toNat)
          case atStart => exact ⟨0, _, rfl, Nat.zero_le _, by simp, HRk.out, HB.out⟩
          case round =>
            obtain ⟨k, ys, rfl, hk, hyl, hR, hB⟩ := hrel
            have HBy : Hid (Below w.heap.size w wr) := hB
            clear hB
            by_cases hlt : k < K.ps.length
            · have hlt' : (k : Int) < (K.ps.length : Int) := by omega
              have hi0 : (0 : Int) ≤ (k : Int) := by omega
              obtain ⟨g, cp, hv, hgN, hgl, -, hcell⟩ := hR.at0 (by omega)
              simp only [Value.slice.injEq] at hv
              obtain ⟨hka, -, -⟩ := hv
              subst hka
              have hkx : k < ys.length := by omega
              have x0 := hcell k 0 hkx (by decide)
              have y0 : wr.cell? ⟨g, k, none⟩ = some (.string ⟨ys[k].toArray⟩) := by simpa [RG, encG] using x0
              have hf0 : wr.frozen? ⟨g, k, none⟩ = false := hR.freeAt _
              have hset : Ro RG w.heap.size (wr.setCell ⟨g, k, none⟩ (.string ⟨[111, 118, 101, 114].toArray⟩)) (.slice (some ⟨g, 0, none⟩) K.ps.length kc) (ys.set k [111, 118, 101, 114]) := by
                have := Ro.set (R := RG) hR k 0 hkx (by decide) (.string ⟨[111, 118, 101, 114].toArray⟩) [111, 118, 101, 114] rfl
                have e : k * RG.k + 0 = k := by show k * 1 + 0 = k; omega
                rw [e] at this
                exact this
              have HFIN : Hid (∃ (k' : Nat) (ys' : List Bs), Value.int .i64 ((k + 1 : Nat) : Int) = .int .i64 (k' : Int) ∧ k' ≤ K.ps.length ∧ ys'.length = K.ps.length ∧ Ro RG w.heap.size (wr.setCell ⟨g, k, none⟩ (.string ⟨[111, 118, 101, 114].toArray⟩)) (.slice (some ⟨g, 0, none⟩) K.ps.length kc) ys' ∧ Below w.heap.size w (wr.setCell ⟨g, k, none⟩ (.string ⟨[111, 118, 101, 114].toArray⟩))) :=
                ⟨k + 1, _, rfl, by omega, by rw [List.length_set]; exact hyl, hset, out_belowN HBy.out (Out.set rfl) HBy.out.size hgN⟩
              generalize ys[k] = q at y0
              clear hcell x0 hset hR hyl hkx
              go_wp2
              exact ⟨HFIN.out, by simp [intOf]; omega⟩
            · have hlt' : decide ((k : Int) < (K.ps.length : Int)) = false := by simp; omega
              clear hR hyl hk HRk HB
              generalize wr = W6 at *
              go_wp2_with fail
              refine (snapshot_any (HS.out W6 HBy.out)).mono ?_
              rintro e W7 ⟨vb, rfl, hob, hB7⟩
              obtain ⟨ba, bc, rfl, -⟩ := Ow.shape hob
              have HB7 : Hid (Below w.heap.size w W7) := HBy.out.trans (hB7.mono HBy.out.size)
              have HOB : Hid (Ow w.heap.size W7 (.slice ba (snapB K).length bc) (snapB K)) := hob.base HBy.out.size
              clear hob hB7 HBy
              go_wp2_with fail
              refine (rsnap_any (HD.out W7 HB7.out)).mono ?_
              rintro e W8 ⟨u, rfl, hS8, hB8⟩
              have HB8 : Hid (Below w.heap.size w W8) := HB7.out.trans (hB8.mono HB7.out.size)
              have HOB8 : Hid (Ow w.heap.size W8 (.slice ba (snapB K).length bc) (snapB K)) := HOB.out.below hB8 (Nat.le_refl _)
              have CS := same_any W8.heap.size _ _ _ _ W8 (HOB8.out.sl (Nat.le_refl _)) hS8
              rw [decide_eq_true (rfl : snapB K = snapB K)] at CS
              have HCS : Hid (Calls _ _ _ _ _) := CS
              clear CS hS8 hB8 HB7 HOB
              go_wp2_with fail
              refine HCS.out.mono ?_
              rintro e W9 ⟨rfl, n9, hw9⟩
              have HB9 : Hid (Below w.heap.size w W9) := by rw [hw9]; exact Below.drewN' HB8.out _
              have HOB9 : Hid (Ow w.heap.size W9 (.slice ba (snapB K).length bc) (snapB K)) := by rw [hw9]; exact HOB8.out.below (Below.drewN' (Below.refl _ _) _) (Nat.le_refl _)
              clear hw9 HCS HB8 HOB8
              obtain ⟨sl, hsl⟩ : ∃ sl, snapB K = sl := ⟨_, rfl⟩
              rw [hsl] at HOB9 HSN
              have hsl3 := HSN.out
              rw [hsl]
              clear hsl
              go_wp2
              go_loopw [13] (fun kv wr => ∃ (k : Nat) (zs : Bs), kv = .int .i64 (k : Int) ∧ k ≤ sl.length ∧ zs.length = sl.length ∧ Ow w.heap.size wr (.slice ba sl.length bc) zs ∧ Below w.heap.size w wr) (fun kv _ => sl.length - (intOf kv).toNat)
              case atStart => exact ⟨0, _, rfl, Nat.zero_le _, rfl, HOB9.out, HB9.out⟩
              case round =>
                obtain ⟨k, zs, rfl, hk, hzl, hR, hB⟩ := hrel
                have HBz : Hid (Below w.heap.size w wr) := hB
                clear hB HOB9 HB9
                by_cases hlt : k < sl.length
                · have hlt' : (k : Int) < (sl.length : Int) := by omega
                  have hi0 : (0 : Int) ≤ (k : Int) := by omega
                  rw [← hzl] at hR
                  obtain ⟨g, hba, -⟩ := hR.at0 (by omega)
                  subst hba
                  obtain ⟨k1, k2, k3⟩ := hR.can k (by omega)
                  have hst := hR.store k 55
                  have hgN := (World.ownsRow.lt hR g rfl).1
                  rw [hzl] at hst
                  have HFIN : Hid (∃ (k' : Nat) (zs' : Bs), Value.int .i64 ((k + 1 : Nat) : Int) = .int .i64 (k' : Int) ∧ k' ≤ sl.length ∧ zs'.length = sl.length ∧ Ow w.heap.size (wr.setCell ⟨g, k, none⟩ (.int .u8 55)) (.slice (some ⟨g, 0, none⟩) sl.length bc) zs' ∧ Below w.heap.size w (wr.setCell ⟨g, k, none⟩ (.int .u8 55))) :=
                    ⟨k + 1, _, rfl, by omega, by rw [List.length_set]; exact hzl, hst, out_belowN HBz.out (Out.set rfl) HBz.out.size hgN⟩
                  unfold encB at k1
                  generalize byteAt zs k = y at k1
                  clear hst hR hzl
                  go_wp2
                  exact ⟨HFIN.out, by simp [intOf]; omega⟩
                · have hlt' : decide ((k : Int) < (sl.length : Int)) = false := by simp; omega
                  clear hR hzl hk
                  generalize wr = Wa at *
                  go_wp2_with fail
                  refine (sessions_any (HS.out Wa HBz.out)).mono ?_
                  rintro e Wb ⟨vl2, rfl, hrl2, hBb⟩
                  have HBb : Hid (Below w.heap.size w Wb) := HBz.out.trans (hBb.mono HBz.out.size)
                  have CE := ses_any (HD.out Wb HBb.out) hrl2
                  obtain ⟨la2, lc2, rfl, -, -⟩ := hrl2.shape
                  have HCE : Hid (Calls _ _ _ _ _) := CE
                  clear CE hrl2 hBb HBz
                  go_wp2_with fail
                  refine HCE.out.mono ?_
                  rintro e Wc ⟨rfl, hBc⟩
                  have HBc : Hid (Below w.heap.size w Wc) := HBb.out.trans (hBc.mono HBb.out.size)
                  clear hBc HCE HBb
                  go_wp2
                  go_ret
                  exact ⟨rfl, HBc.out⟩
end Go.Proofs.YtglhjgfaelfleaaGreat
namespace Go.Proofs.YtglhjgfaelfleaaGreat
open Go.RowKit
set_option linter.unusedVariables false

/-- The program's store, which is K; the document's, which is K'. -/
structure Bd (w W : World) (N b mp ms d : Nat) (K K' : KV) : Prop where
  up : Up w W b mp ms K
  ds : ∃ vp vs, DS N W d vp vs K'
  lb : b < N ∧ mp < N ∧ ms < N
  lw : w.heap.size ≤ N
  hN : N ≤ W.heap.size
/-- Replies and commands that lie by themselves stay. -/
def KeepC (W W' : World) : Prop := W.heap.size ≤ W'.heap.size ∧ ∀ (i : Nat) (c : Array Value) (t : TypeId) (z : Nat × Nat), (t = 40 ∨ t = 44) → W.heap[i]? = some (.cells c t z) → W'.heap[i]? = some (.cells c t z)
theorem KeepC.below {W W' : World} (h : Below W.heap.size W W') : KeepC W W' := ⟨h.size, fun i c t z _ hi => (h.block i (Array.getElem?_eq_some_iff.1 hi).1).trans hi⟩
theorem KeepC.trans {A B C : World} (h : KeepC A B) (k : KeepC B C) : KeepC A C := ⟨Nat.le_trans h.1 k.1, fun i c t z ht hi => k.2 i c t z ht (h.2 i c t z ht hi)⟩
theorem KeepC.rb {W W' : World} (h : KeepC W W') {r : Nat} {c : Int} {x : Bs} (hr : Rb W r c x) : Rb W' r c x := h.2 r _ _ _ (.inl rfl) hr
theorem KeepC.dc {W W' : World} (h : KeepC W W') {r : Nat} {op cl sq : Int} {ky vl od : Bs} (hr : Dc W r op cl sq ky vl od) : Dc W' r op cl sq ky vl od := h.2 r _ _ _ (.inr rfl) hr
theorem Bd.below {w W W' : World} {N b mp ms d : Nat} {K K' : KV} (h : Bd w W N b mp ms d K K') (hB : Below W.heap.size W W') : Bd w W' N b mp ms d K K' := by
  obtain ⟨vp, vs, hd⟩ := h.ds
  exact ⟨h.up.below hB, ⟨vp, vs, hd.below hB⟩, h.lb, h.lw, Nat.le_trans h.hN hB.size⟩
theorem Bd.do1 {w W : World} {N b mp ms d : Nat} {K K' : KV} (h : Bd w W N b mp ms d K K') (c : Cm) :
    Calls Tryz.prog 14 #[.pointer (some ⟨b, 0, none⟩), .agg #[.int .i64 c.op, .int .i64 c.cl, .int .i64 c.sq, .string ⟨c.key.toArray⟩, .string ⟨c.val.toArray⟩, .string ⟨c.old.toArray⟩]] W fun e w' => e = .returned (.tuple #[.agg #[.int .i64 (doF K c).2.code, .string ⟨(doF K c).2.val.toArray⟩], .int .i64 (c.ck : Int)]) ∧ Bd w w' N b mp ms d (doF K c).1 K' ∧ KeepC W w' := by
  obtain ⟨vp, vs, hd⟩ := h.ds
  refine (up_do h.up c).mono ?_
  rintro e w' ⟨rfl, hU, hk, -⟩
  exact ⟨rfl, ⟨hU, ⟨vp, vs, hd.kpt hk⟩, h.lb, h.lw, Nat.le_trans h.hN hk.1⟩, hk.1, fun i c t z _ hi => hk.2 i _ (by simp) hi⟩
theorem Bd.do2 {w W : World} {N b mp ms d : Nat} {K : KV} (c : Cm) (h : Bd w W N b mp ms d (doF K c).1 K) :
    Calls Tryz.prog 15 #[.pointer (some ⟨d, 0, none⟩), .agg #[.int .i64 c.op, .int .i64 c.cl, .int .i64 c.sq, .string ⟨c.key.toArray⟩, .string ⟨c.val.toArray⟩, .string ⟨c.old.toArray⟩]] W fun e w' => e = .returned (.tuple #[.agg #[.int .i64 (doF K c).2.code, .string ⟨(doF K c).2.val.toArray⟩], .int .i64 (c.ck : Int)]) ∧ Bd w w' N b mp ms d (doF K c).1 (doF K c).1 ∧ KeepC W w' := by
  obtain ⟨vp, vs, hd⟩ := h.ds
  refine (rdo_any hd h.hN c h.up.st.risP h.up.st.risS).mono ?_
  rintro e w' ⟨rfl, hds, hO⟩
  have hX : ∀ i, Xd d vp vs i → N ≤ i := by
    intro i hi
    rcases hi with e | e | e
    · have := hd.low; omega
    · exact (hd.rp.lt e).1
    · exact (hd.rs.lt e).1
  refine ⟨rfl, ⟨⟨h.up.st.out hO (fun e => ?_) (fun e => ?_) (fun e => ?_), h.up.bel.trans ⟨hO.os, hO.tape, hO.output, hO.size, fun i hi => hO.block i (by have := h.up.bel.size; omega) (fun e => ?_)⟩, h.up.lm⟩, hds, h.lb, h.lw, Nat.le_trans h.hN hO.size⟩, hO.size, fun i cc t z ht hi => ?_⟩
  · have := hX _ e; have := h.lb.1; omega
  · have := hX _ e; have := h.lb.2.1; omega
  · have := hX _ e; have := h.lb.2.2; omega
  · have := hX _ e; have := h.lw; omega
  · refine (hO.block i (Array.getElem?_eq_some_iff.1 hi).1 (fun e => ?_)).trans hi
    rcases e with e | e | e
    · subst e
      have := hd.hd
      rw [hi] at this
      have ht2 : t = 63 := by cases this; rfl
      rw [ht2] at ht
      revert ht; decide
    · exact hd.rp.apart hi (by rcases ht with rfl | rfl <;> decide) e
    · exact hd.rs.apart hi (by rcases ht with rfl | rfl <;> decide) e
theorem Bd.new {w W1 : World} {b mp ms : Nat} (h : Up w W1 b mp ms ⟨[], []⟩) : Bd w (W1.alloc (.cells #[.slice none 0 0, .slice none 0 0] 63)) W1.heap.size b mp ms W1.heap.size ⟨[], []⟩ ⟨[], []⟩ :=
  ⟨h.alloc _, ⟨_, _, heap_alloc_new W1 _, Ro.nil _ _ _, Ro.nil _ _ _, Nat.le_refl _, List.Pairwise.nil, List.Pairwise.nil, Ok0⟩, h.st.lt, h.bel.size, by simp⟩
theorem Bd.same {w W : World} {N b mp ms d : Nat} {K : KV} (h : Bd w W N b mp ms d K K) :
    Calls Tryz.prog 13 #[.pointer (some ⟨b, 0, none⟩), .pointer (some ⟨d, 0, none⟩)] W fun e w' => e = .returned (.bool true) ∧ Bd w w' N b mp ms d K K ∧ KeepC W w' := by
  obtain ⟨vp, vs, hd⟩ := h.ds
  refine (sameKv_any h.up.st hd).mono ?_
  rintro e w' ⟨rfl, hB⟩
  exact ⟨rfl, h.below hB, KeepC.below hB⟩
end Go.Proofs.YtglhjgfaelfleaaGreat
