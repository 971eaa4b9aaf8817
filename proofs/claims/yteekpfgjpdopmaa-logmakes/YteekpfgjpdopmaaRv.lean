/-
  The document's log: Next.
-/
import Derived.Test.YteekpfgjpdopmaaRn
import Derived.Deep.RegionHeld3
import Derived.Deep.CutRange
namespace Go.Proofs.Yteekpfgjpdopmaa
open Go.RowKit
set_option linter.unusedVariables false

set_option maxRecDepth 100000 in
set_option maxHeartbeats 4000000 in
/-- Next. -/
theorem RNext_any {N : Nat} {S : Nat → Prop} {w : World} {b : Nat} {P : PL} (h : Rg N S w b P) (most : Int) :
    Calls Try.prog 51 #[.pointer (some ⟨b, 0, none⟩), .int .i64 most] w fun e w' => ∃ v fs, e = .returned v ∧ EntsOw w.heap.size w' v fs ∧ fs.map Ent.says = nxE P most ∧ RK N S w w' b (nxP P most) := by
  obtain ⟨va, vc, hvc, hvm, hsh, hcs, hcp⟩ := h.copy
  have hbw := h.inn _ h.Sb
  obtain ⟨n0, hn0⟩ : ∃ n0 : Nat, P.g - P.bi = (n0 : Int) := ⟨(P.g - P.bi).toNat, by have := h.ok.ba; have := h.ok.ag; omega⟩
  have hnl := nxN_le h.ok most
  have HNN : Hid ((nxN P most : Int) = min (min P.c P.s - P.g) (max most 0)) := by
    have := h.ok.gc; have := h.ok.gs
    show ((nxN P most : Nat) : Int) = _
    unfold nxN cnt
    omega
  have hlen : n0 + nxN P most ≤ P.E.length := by have := h.ok.cl; unfold PL.li at this; omega
  have hl2 := h.ok.len
  have hlim := h.ok.lim
  have hb0 := h.ok.b0
  have hcl := h.ok.cl
  have hgb : 0 ≤ P.g ∧ P.g ≤ P.c ∧ P.g ≤ P.s ∧ P.c ≤ 4611686018427387904 := by have := h.ok.ba; have := h.ok.ag; have := h.ok.gc; have := h.ok.gs; omega
  have hE : nxE P most = (P.E.drop n0).take (nxN P most) := by unfold nxE; rw [show (P.g - P.bi).toNat = n0 by omega]
  have HK : Hid (∀ w1 v fs, Below w.heap.size w w1 → EntsOw w.heap.size w1 v fs → fs.map Ent.says = (P.E.drop n0).take (nxN P most) → ∃ fs, EntsOw w.heap.size (w1.setCell ⟨b, 6, none⟩ (.int .i64 (P.g + (nxN P most : Int)))) v fs ∧ fs.map Ent.says = nxE P most ∧ RK N S w (w1.setCell ⟨b, 6, none⟩ (.int .i64 (P.g + (nxN P most : Int)))) b (nxP P most)) := fun w1 v fs hB ho hsy =>
    ⟨fs, ho.put hbw _ _, by rw [hE]; exact hsy, h.mark hB 6 _ rfl (nxP_ok h.ok most) (fun v => rfl)⟩
  have HCS : Hid (∀ w1, Below w.heap.size w w1 → _) := hcs
  obtain ⟨⟨k0, -, k2, -, k4, k5, k6, -⟩, kf, kb⟩ := hcs w (Below.refl _ _)
  clear h hcs hE
  generalize nxN P most = cn at *
  have hsub : IntKind.i64.wrap (P.g - P.bi) = (n0 : Int) := by rw [IntKind.wrap_i64]; omega
  have hadd : IntKind.i64.wrap ((n0 : Int) + (cn : Int)) = (n0 : Int) + (cn : Int) := by rw [IntKind.wrap_i64]; omega
  have hgad : IntKind.i64.wrap (P.g + (cn : Int)) = P.g + (cn : Int) := by rw [IntKind.wrap_i64]; omega
  have HX : Hid (∀ X, X = min P.c P.s → IntKind.i64.wrap (X - P.g) = X - P.g ∧ 0 ≤ X - P.g) := fun X hX => ⟨by rw [IntKind.wrap_i64]; omega, by omega⟩
  have HGB : Hid (0 ≤ P.g ∧ P.g ≤ P.c ∧ P.g ≤ P.s ∧ P.c ≤ 4611686018427387904) := hgb
  have HHS : Hid (IntKind.i64.wrap (P.g - P.bi) = (n0 : Int)) := hsub
  have HHA : Hid (IntKind.i64.wrap ((n0 : Int) + (cn : Int)) = (n0 : Int) + (cn : Int)) := hadd
  have HHG : Hid (IntKind.i64.wrap (P.g + (cn : Int)) = P.g + (cn : Int)) := hgad
  clear hn0 hnl hlim hb0 hcl hgb hsub hadd hgad
  go_enter Try.func51, Try.ntmps51
  go_upto_region 1 with fail
  go_cut [5] from 9 to 17 (fun v5 wx => v5 = .int .i64 (min P.c P.s) ∧ Below w.heap.size w wx)
  case first =>
    by_cases hcs : P.s < P.c
    · have E1 : Hid (min P.c P.s = P.s) := by show min P.c P.s = P.s; omega
      clear HX HNN
      go_quiet (fail)
      go_wp2_with fail
      go_meet
      exact ⟨by rw [E1.out], below_drewN (Below.refl _ _) _⟩
    · have E1 : Hid (min P.c P.s = P.c) := by show min P.c P.s = P.c; omega
      clear HX HNN
      go_quiet (fail)
      go_wp2_with fail
      go_meet
      exact ⟨by rw [E1.out], below_drewN (Below.refl _ _) _⟩
  case rest =>
    obtain ⟨rfl, hB1⟩ := hcut
    have HB1 : Hid (Below w.heap.size w wc) := hB1
    obtain ⟨⟨y0, -, y2, -, y4, y5, y6, -⟩, yf, yb⟩ := HCS.out wc hB1
    clear k0 k2 k4 k5 k6 kf kb hB1
    obtain ⟨hx1, hx2⟩ := HX.out _ rfl
    generalize wc = W1 at *
    obtain ⟨X, hX⟩ : ∃ X, min P.c P.s = X := ⟨_, rfl⟩
    rw [hX] at hx1 hx2 HNN ⊢
    clear hX HX
    go_upto_region 2 with fail
    go_cut [6] from 18 to 27 (fun v6 wx => v6 = .int .i64 (cn : Int) ∧ W1 = wx)
    case first =>
      have hd0 : ¬ X - P.g < 0 := by omega
      obtain ⟨D, hD⟩ : ∃ D, X - P.g = D := ⟨_, rfl⟩
      have hxd : IntKind.i64.wrap (X - P.g) = D := hx1.trans hD
      rw [hD] at hd0 HNN
      by_cases hm : most < 0
      · by_cases hz : 0 < D
        · have EC : Hid ((cn : Int) = 0) := by have := HNN.out; show (cn : Int) = 0; omega
          clear HNN hx1 hx2 hD
          go_wp2_with fail
          go_meet
          exact ⟨by rw [EC.out], rfl⟩
        · have EC : Hid ((cn : Int) = D) := by have := HNN.out; show (cn : Int) = D; omega
          clear HNN hx1 hx2 hD
          go_wp2_with fail
          go_meet
          exact ⟨by rw [EC.out], rfl⟩
      · by_cases hz : most < D
        · have EC : Hid ((cn : Int) = most) := by have := HNN.out; show (cn : Int) = most; omega
          clear HNN hx1 hx2 hD
          go_wp2_with fail
          go_meet
          exact ⟨by rw [EC.out], rfl⟩
        · have EC : Hid ((cn : Int) = D) := by have := HNN.out; show (cn : Int) = D; omega
          clear HNN hx1 hx2 hD
          go_wp2_with fail
          go_meet
          exact ⟨by rw [EC.out], rfl⟩
    case rest =>
      obtain ⟨rfl, hw⟩ := hcut
      subst hw
      clear HNN hx1 hx2
      have HHS2 := HHS.out
      rcases hsh with ⟨rfl, rfl, hz⟩ | ⟨g, rfl⟩
      · obtain rfl : n0 = 0 := by omega
        obtain rfl : cn = 0 := by omega
        rw [show P.g + ((0 : Nat) : Int) = P.g by omega] at HK
        have hg1 : 0 ≤ P.g := HGB.out.1
        have hg2 : P.g ≤ 4611686018427387904 := by have := HGB.out; omega
        have HCP : Hid (∀ w1, Below w.heap.size w w1 → Calls Try.prog 16 #[.slice none 0 0] w1 fun e w' => ∃ v fs, e = .returned v ∧ EntsOw w1.heap.size w' v fs ∧ fs.map Ent.says = (P.E.drop 0).take 0 ∧ Below w1.heap.size w1 w') := fun w1 hB => hcp 0 0 (by omega) w1 none 0 hB (.inl rfl)
        rw [hz] at y2 HCS
        have hga := HHG.out
        clear hcp hvc hvm hlen hl2 HHA
        go_wp2_with fail
        go_quiet (fail)
        obtain ⟨W2, HW2⟩ : ∃ W2, Hid (W1.drewN nq = W2) := ⟨_, rfl⟩
        have HB2 : Hid (Below w.heap.size w W2) := by rw [← HW2.out]; exact below_drewN HB1.out _
        rw [HW2.out]
        clear HW2
        obtain ⟨⟨z0, -, z2, -, z4, z5, z6, -⟩, zf, zb⟩ := HCS.out W2 HB2.out
        clear y0 y2 y4 y5 y6 yf yb
        go_wp2_with fail
        refine (HCP.out _ HB2.out).mono ?_
        rintro r w1 ⟨v, fs, rfl, q1, q2, q3⟩
        have HB3 : Hid (Below w.heap.size w w1) := HB2.out.trans (q3.mono HB2.out.size)
        obtain ⟨⟨x0, -, x2, -, x4, x5, x6, -⟩, xf, xb⟩ := HCS.out w1 HB3.out
        have Q1 : Hid (EntsOw w.heap.size w1 v fs) := q1.base HB2.out.size
        have Q2 : Hid (fs.map Ent.says = _) := q2
        clear q1 q2 q3 z0 z2 z4 z5 z6 zf zb HCP
        go_wp2
        go_ret
        obtain ⟨fs', f1, f2, f3⟩ := HK.out w1 v fs HB3.out Q1.out Q2.out
        exact ⟨v, fs', rfl, f1, f2, f3⟩
      · unfold maxLen at hvm
        have i0 : (0 : Int) ≤ (n0 : Int) := by omega
        have i1 : (n0 : Int) ≤ (n0 : Int) + (cn : Int) := by omega
        have i2 : (n0 : Int) + (cn : Int) ≤ (vc : Int) := by omega
        have hha := HHA.out
        have hga := HHG.out
        by_cases hvn : vc = n0
        · subst hvn
          obtain rfl : cn = 0 := by omega
          rw [show P.g + ((0 : Nat) : Int) = P.g by omega] at HK
          have hg1 : 0 ≤ P.g := HGB.out.1
          have hg2 : P.g ≤ 4611686018427387904 := by have := HGB.out; omega
          have HCP : Hid (∀ w1, Below w.heap.size w w1 → Calls Try.prog 16 #[.slice (some ⟨g, 0, none⟩) 0 0] w1 fun e w' => ∃ v fs, e = .returned v ∧ EntsOw w1.heap.size w' v fs ∧ fs.map Ent.says = (P.E.drop vc).take 0 ∧ Below w1.heap.size w1 w') := fun w1 hB => hcp vc 0 (by omega) w1 _ 0 hB (.inl rfl)
          clear hcp
          go_wp2_with fail
          go_quiet (fail)
          obtain ⟨W2, HW2⟩ : ∃ W2, Hid (W1.drewN nq = W2) := ⟨_, rfl⟩
          have HB2 : Hid (Below w.heap.size w W2) := by rw [← HW2.out]; exact below_drewN HB1.out _
          rw [HW2.out]
          clear HW2
          obtain ⟨⟨z0, -, z2, -, z4, z5, z6, -⟩, zf, zb⟩ := HCS.out W2 HB2.out
          clear y0 y2 y4 y5 y6 yf yb
          go_wp2_with fail
          refine (HCP.out _ HB2.out).mono ?_
          rintro r w1 ⟨v, fs, rfl, q1, q2, q3⟩
          have HB3 : Hid (Below w.heap.size w w1) := HB2.out.trans (q3.mono HB2.out.size)
          obtain ⟨⟨x0, -, x2, -, x4, x5, x6, -⟩, xf, xb⟩ := HCS.out w1 HB3.out
          have Q1 : Hid (EntsOw w.heap.size w1 v fs) := q1.base HB2.out.size
          have Q2 : Hid (fs.map Ent.says = _) := q2
          clear q1 q2 q3 z0 z2 z4 z5 z6 zf zb HCP
          go_wp2
          go_ret
          obtain ⟨fs', f1, f2, f3⟩ := HK.out w1 v fs HB3.out Q1.out Q2.out
          exact ⟨v, fs', rfl, f1, f2, f3⟩
        · have HCP : Hid (∀ w1, Below w.heap.size w w1 → Calls Try.prog 16 #[.slice (some ⟨g, n0 * 4, none⟩) cn (vc - n0)] w1 fun e w' => ∃ v fs, e = .returned v ∧ EntsOw w1.heap.size w' v fs ∧ fs.map Ent.says = (P.E.drop n0).take cn ∧ Below w1.heap.size w1 w') := fun w1 hB => hcp n0 cn hlen w1 _ _ hB (.inr (.inr ⟨g, rfl, rfl⟩))
          clear hcp
          go_wp2_with fail
          go_quiet (fail)
          obtain ⟨W2, HW2⟩ : ∃ W2, Hid (W1.drewN nq = W2) := ⟨_, rfl⟩
          have HB2 : Hid (Below w.heap.size w W2) := by rw [← HW2.out]; exact below_drewN HB1.out _
          rw [HW2.out]
          clear HW2
          obtain ⟨⟨z0, -, z2, -, z4, z5, z6, -⟩, zf, zb⟩ := HCS.out W2 HB2.out
          clear y0 y2 y4 y5 y6 yf yb
          go_wp2_with fail
          refine (HCP.out _ HB2.out).mono ?_
          rintro r w1 ⟨v, fs, rfl, q1, q2, q3⟩
          have HB3 : Hid (Below w.heap.size w w1) := HB2.out.trans (q3.mono HB2.out.size)
          obtain ⟨⟨x0, -, x2, -, x4, x5, x6, -⟩, xf, xb⟩ := HCS.out w1 HB3.out
          have Q1 : Hid (EntsOw w.heap.size w1 v fs) := q1.base HB2.out.size
          have Q2 : Hid (fs.map Ent.says = _) := q2
          clear q1 q2 q3 z0 z2 z4 z5 z6 zf zb HCP
          go_wp2
          go_ret
          obtain ⟨fs', f1, f2, f3⟩ := HK.out w1 v fs HB3.out Q1.out Q2.out
          exact ⟨v, fs', rfl, f1, f2, f3⟩
end Go.Proofs.Yteekpfgjpdopmaa
