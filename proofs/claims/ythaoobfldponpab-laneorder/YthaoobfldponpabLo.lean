/-
  LaneOrder: the walk of the law.
-/
import Derived.Test.YthaoobfldponpabLm
namespace Go.Proofs.Ythaoobfldponpab
open Go.RowKit
set_option linter.unusedVariables false

set_option maxRecDepth 100000 in
set_option maxHeartbeats 20000000 in
theorem laneOrder_walk (lanes : Int) (hr0 : In64 lanes) (room : Int) (hr : In64 room) (a : Option Addr) (ca : Nat) (l : List Opn) (w : World) (hl : OpsAt w.heap.size w a l) (hll : l.length ≤ 9223372036854775807) :
    Calls Try.prog 3 #[.int .i64 lanes, .int .i64 room, .slice a l.length ca] w fun e w' => e = .returned (.bool true) ∧ Below w.heap.size w w' := by
  obtain ⟨x0, y0, n, h1, h2, h3, h4, hn1, hn8, -⟩ := small 8 (by omega) (by omega) lanes hr0
  obtain ⟨x1, y1, R, k1, k2, k3, k4, hR1, hR2, -⟩ := small 64 (by omega) (by omega) room hr
  have g1 : lanes.tmod 8 = x0 := h1
  have g2 : IntKind.i64.wrap (x0 + 8) = x0 + 8 := h2
  have g3 : (x0 + 8).tmod 8 = y0 := h3
  have j1 : room.tmod 64 = x1 := k1
  have j2 : IntKind.i64.wrap (x1 + 64) = x1 + 64 := k2
  have j3 : (x1 + 64).tmod 64 = y1 := k3
  have HL : Hid (OpsAt w.heap.size w a l) := hl
  clear hl h1 h2 h3 hr hr0 k1 k2 k3 hll
  go_enter Try.func3, Try.ntmps3
  go_wp2_with fail
  refine (first_any w).mono ?_
  rintro e w1 ⟨rfl, hB1⟩
  have HB1 : Hid (Below w.heap.size w w1) := hB1
  clear hB1
  by_cases hlen : 400 < l.length
  · have hg : decide ((400 : Int) < (l.length : Int)) = true := by simp; omega
    clear hlen
    go_wp2
    go_ret
    exact ⟨rfl, HB1.out⟩
  have hg : decide ((400 : Int) < (l.length : Int)) = false := by simp; omega
  go_wp2_with fail
  refine (newLanes_any w.heap.size n R w1 HB1.out.size hn1 (by omega) hR1 hR2).mono ?_
  rintro e w2 ⟨rfl, hl2, hB2⟩
  have HL2 : Hid (La w.heap.size (fun i => w1.heap.size ≤ i ∧ i < w1.heap.size + (n + 2)) w2 (w1.heap.size + 1 + n) n R 0 (fun _ => [])) := hl2
  have HB2 : Hid (Below w.heap.size w w2) := HB1.out.trans (hB2.mono HB1.out.size)
  clear hl2 hB2 HB1 g1 g2 g3 j1 j2 j3 h4 k4
  obtain ⟨d, HD⟩ : ∃ d, Hid (w1.heap.size + 1 + n = d) := ⟨_, rfl⟩
  rw [HD.out] at HL2 ⊢
  obtain ⟨cs0, hmk, hmx⟩ := run_mx w.heap.size n (by omega) w2 HB2.out.size
  have HM3 : Hid (LM w.heap.size (fun i => w1.heap.size ≤ i ∧ i < w1.heap.size + (n + 2)) (fun i => i = w2.heap.size) (w2.alloc (.cells cs0 30)) d w2.heap.size n R 0 (fun _ => .slice none 0 0) (fun _ => []) (fun _ => [])) :=
    ⟨La.below HL2.out ((Below.refl _ w2).alloc (Nat.le_refl _) _), hmx, fun i h1 h2 => by have := La.inn HL2.out i h1; omega⟩
  have HB3 : Hid (Below w.heap.size w (w2.alloc (.cells cs0 30))) := HB2.out.alloc HB2.out.size _
  clear hmx HL2 HB2 HD
  generalize hmm : w2.heap.size = m at *
  clear hmm
  go_wp2
  go_loopw [10, 11] (fun nv iv wr => ∃ (i nx : Nat) (S S' : Nat → Prop) (vs : Nat → Value) (ls : Nat → List Int), nv = .int .i64 (tot ls n : Int) ∧ iv = .int .i64 (i : Int) ∧ i ≤ l.length ∧ LM w.heap.size S S' wr d m n R nx vs ls ls ∧ Below w.heap.size w wr) (fun _ iv _ => l.length - (intOf iv).toNat)
  case atStart => exact ⟨0, 0, _, _, _, _, by rw [tot_pos (fun _ _ => rfl)]; rfl, rfl, Nat.zero_le _, by simpa using HM3.out, by simpa using HB3.out⟩
  case round =>
    obtain ⟨i, nx, S, S', vs, ls, rfl, rfl, hi, hM, hB⟩ := hrel
    have HM : Hid (LM w.heap.size S S' wr d m n R nx vs ls ls) := hM
    have HB : Hid (Below w.heap.size w wr) := hB
    have hnum := hM.la.nums
    have HT : Hid (tot ls n ≤ 4096) := by
      show _ ≤ _
      have h1 := tot_le (ls := ls) (room := 64) (n := n) (fun i hi => Nat.le_trans (hnum.2 i hi).1 (hnum.2 i hi).2)
      omega
    have HNUM : Hid _ := hnum
    clear hM hB HM3 HB3 hnum
    generalize wr = wp at *
    obtain ⟨T0, HT0⟩ : ∃ T0, Hid (tot ls n = T0) := ⟨_, rfl⟩
    have hT0 : T0 ≤ 4096 := by rw [← HT0.out]; exact HT.out
    rw [HT0.out]
    by_cases hnl : l.length ≤ i
    · have hil' : decide ((i : Int) < (l.length : Int)) = false := by simp; omega
      go_wp2
      go_ret
      exact ⟨rfl, HB.out⟩
    have hil : i < l.length := by omega
    have hil' : (i : Int) < (l.length : Int) := by omega
    obtain ⟨b0, o0, rfl, hb0, ho0⟩ := HL.out.at hil
    have HO : Hid (OpAt w b0 (o0 + i * 3) (l.getD i nilOp)) := ho0
    generalize l.getD i nilOp = op at *
    obtain ⟨kd0, n0, ln0⟩ := op
    clear ho0
    obtain ⟨⟨e0, -, e2⟩, -⟩ := HO.out.below hb0 HB.out
    simp only at e0 e2
    by_cases hkd : kd0 = 0
    · subst hkd
      obtain ⟨x2, J, q1, q2, q3, hJ⟩ := laneOf n hn1 (by omega) ln0
      have hnz : ((n : Int) == 0) = false := by simp; omega
      have hpt := lput_any HM.out.la HB.out.size J hJ (i : Int)
      have HRL : Hid ((ls J).length ≤ R) := (HNUM.out.2 J hJ).1
      by_cases hlt : (ls J).length < R
      · have hd : decide ((ls J).length < R) = true := by simpa using hlt
        have hpl : putL R (ls J) (i : Int) = ls J ++ [(i : Int)] := if_pos hlt
        rw [hd, hpl] at hpt
        clear hd hpl hlt
        go_wp2_with fail
        refine hpt.mono ?_
        rintro e w4 ⟨rfl, t4⟩
        have HM4 : Hid (LM w.heap.size (grew S wp w4) S' w4 d m n R nx vs (upd ls J (ls J ++ [(i : Int)])) ls) := HM.out.one t4
        have HB4 : Hid (Below w.heap.size w w4) := HB.out.trans (t4.bel HB.out.size)
        clear t4 HM HB e0 e2 hpt q1 q2 q3
        obtain ⟨aJ, cJ, hvJ, -⟩ := HM4.out.mx.row hJ
        obtain ⟨m1, m2⟩ := HM4.out.mx.cell hJ
        rw [hvJ] at m1
        obtain ⟨p1, p2, p3⟩ := HM4.out.mx.app HB4.out.size hJ (i : Int) hvJ
        have P3 : Hid _ := p3
        have P2 : Hid _ := p2
        have hl64 : (ls J).length ≤ 64 := by have := (HNUM.out.2 J hJ); omega
        have hlen1 : (ls J).length + 1 ≤ 1099511627776 := by omega
        have hJn : (J : Int) < (n : Int) := by omega
        have HTS : Hid (tot (upd ls J (ls J ++ [(i : Int)])) n = T0 + 1) := by
          show _ = _
          have := tot_set (ls := ls) hJ (ls J ++ [(i : Int)])
          rw [HT0.out] at this
          simp at this
          omega
        have hwT : IntKind.i64.wrap ((T0 : Int) + 1) = ((T0 + 1 : Nat) : Int) := by rw [IntKind.wrap_i64]; omega
        have hln : (ls J ++ [(i : Int)]).length = (ls J).length + 1 := by simp
        have HLN : Hid _ := hln
        clear p2 p3 hvJ hln
        go_wp2_with (at_builtin; refine wpList_append_wo rfl _ _ rfl _ (ls J) (i : Int) _ _ rfl P2.out rfl p1 hlen1 ?_; intro v' w5 g1 g2 g3; obtain ⟨⟨s1, s2⟩, hmx5, hO5⟩ := P3.out v' w5 g1 g2 g3; obtain ⟨a', c', rfl, -⟩ := g1.shape; rw [HLN.out] at hmx5 hO5; have HMX5 : Hid _ := hmx5; have HO5 : Hid _ := hO5; clear g1 g2 g3 hmx5 hO5)
        generalize hw6 : w5.setCell ⟨m, J, none⟩ (.slice a' ((ls J).length + 1) c') = w6 at *
        have HM6 : Hid (LM w.heap.size (grew S wp w4) (grew S' w4 w6) w6 d m n R nx _ (upd ls J (ls J ++ [(i : Int)])) (upd ls J (ls J ++ [(i : Int)]))) := HM4.out.two HMX5.out HO5.out
        have HB6 : Hid (Below w.heap.size w w6) := HB4.out.trans (HO5.out.below HB4.out.size (fun g hg => HM4.out.mx.fr g hg))
        have HLE := llen_any HM6.out.la
        rw [HTS.out] at HLE
        clear hw6 HMX5 HO5 HM4 HB4 P2 P3 p1 s1 s2 m1 m2
        refine HLE.mono ?_
        rintro e wx ⟨rfl, hwx⟩
        subst wx
        go_wp2
        exact ⟨⟨i + 1, nx, _, _, _, _, by rw [HTS.out]; try simp, by go_num, by omega, HM6.out, HB6.out⟩, by simp [intOf]; omega⟩
      · have hd : decide ((ls J).length < R) = false := by simpa using hlt
        have hpl : putL R (ls J) (i : Int) = ls J := if_neg hlt
        have heq : ((ls J).length : Int) = (R : Int) := by have := HRL.out; omega
        rw [hd, hpl, upd_same] at hpt
        clear hd hpl hlt
        go_wp2_with fail
        refine hpt.mono ?_
        rintro e w4 ⟨rfl, t4⟩
        have HM4 : Hid (LM w.heap.size (grew S wp w4) S' w4 d m n R nx vs ls ls) := HM.out.one t4
        have HB4 : Hid (Below w.heap.size w w4) := HB.out.trans (t4.bel HB.out.size)
        clear t4 HM HB e0 e2 hpt q1 q2 q3
        obtain ⟨aJ, cJ, hvJ, -⟩ := HM4.out.mx.row hJ
        obtain ⟨m1, m2⟩ := HM4.out.mx.cell hJ
        rw [hvJ] at m1
        have hne : (((ls J).length : Int) != (R : Int)) = false := by rw [heq]; simp
        have hJn : (J : Int) < (n : Int) := by omega
        clear heq hvJ
        have HLE := llen_any HM4.out.la
        rw [HT0.out] at HLE
        go_wp2_with (go_at_call 9; refine HLE.mono ?_; rintro e wx ⟨rfl, hwx⟩; subst wx)
        exact ⟨⟨i + 1, nx, _, _, _, _, by rw [HT0.out], by go_num, by omega, HM4.out, HB4.out⟩, by simp [intOf]; omega⟩
    · have hkd1 : (kd0 == 0) = false := by simpa using hkd
      clear hkd
      by_cases hall : ∀ j, j < n → ls j = []
      · have htk := ltake_none HM.out.la HB.out.size hall
        have hz : T0 = 0 := by rw [← HT0.out]; exact tot_pos hall
        subst hz
        go_wp2_with fail
        refine htk.mono ?_
        rintro e w4 ⟨rfl, t4⟩
        have HM4 : Hid (LM w.heap.size (grew S wp w4) S' w4 d m n R nx vs ls ls) := HM.out.one t4
        have HB4 : Hid (Below w.heap.size w w4) := HB.out.trans (t4.bel HB.out.size)
        clear t4 HM HB e0 e2 htk
        have HLE := llen_any HM4.out.la
        rw [HT0.out] at HLE
        go_wp2_with (go_at_call 9; refine HLE.mono ?_; rintro e wx ⟨rfl, hwx⟩; subst wx)
        exact ⟨⟨i + 1, nx, _, _, _, _, by rw [HT0.out]; rfl, by go_num, by omega, HM4.out, HB4.out⟩, by simp [intOf]; omega⟩
      · obtain ⟨mm, hmm, hz, hne⟩ := pick_some HNUM.out.1.2.2 hall
        obtain ⟨J, HJ⟩ : ∃ J, Hid ((nx + mm) % n = J) := ⟨_, rfl⟩
        have hJ : J < n := by rw [← HJ.out]; exact Nat.mod_lt _ (by omega)
        rw [HJ.out] at hne
        obtain ⟨x, t, hxt⟩ : ∃ x t, ls J = x :: t := by
          cases h : ls J with
          | nil => exact absurd h hne
          | cons x t => exact ⟨x, t, rfl⟩
        have htk := ltake_any HM.out.la HB.out.size mm hmm hz x t (by rw [HJ.out]; exact hxt)
        rw [HJ.out] at htk
        have HTS : Hid (tot (upd ls J t) n + 1 = T0) := by
          show _ = _
          have := tot_set (ls := ls) hJ t
          rw [HT0.out, hxt] at this
          simp at this
          omega
        have hT1 : 0 < T0 := by have := HTS.out; omega
        clear hz hne hall hmm
        go_wp2_with fail
        refine htk.mono ?_
        rintro e w4 ⟨rfl, t4⟩
        have HM4 : Hid (LM w.heap.size (grew S wp w4) S' w4 d m n R (J + 1) vs (upd ls J t) ls) := HM.out.one t4
        have HB4 : Hid (Below w.heap.size w w4) := HB.out.trans (t4.bel HB.out.size)
        clear t4 HM HB e0 e2 htk
        obtain ⟨aJ, cJ, hvJ, hwJ⟩ := HM4.out.mx.row hJ
        obtain ⟨m1, m2⟩ := HM4.out.mx.cell hJ
        rw [hvJ] at m1
        obtain ⟨hmx5, hO5⟩ := HM4.out.mx.cutS HB4.out.size hJ hvJ 1 (by rw [hxt]; simp)
        obtain ⟨a2, c2, hv2, hlc, hcm, hcc⟩ := hwJ.sl (Nat.le_refl _)
        cases hv2
        obtain ⟨g, off, rfl, -, hcell⟩ := hcc.resolve_left (by rw [hxt]; simp)
        have k0 := hcell 0 (by rw [hxt]; simp)
        rw [hxt] at k0
        simp only [Nat.add_zero, List.getElem?_cons_zero, Option.getD_some] at k0
        have hd1 : (ls J).drop 1 = t := by rw [hxt]; rfl
        have hlen : (ls J).length = t.length + 1 := by rw [hxt]; simp
        rw [hd1] at hmx5
        have hMX5 : Hid _ := hmx5
        have HO5 : Hid _ := hO5
        have hJn : (J : Int) < (n : Int) := by omega
        have hlz : ((((ls J).length : Nat) : Int) == 0) = false := by rw [hlen]; simp; omega
        have hl1 : 1 ≤ (ls J).length := by omega
        have hwT : IntKind.i64.wrap ((T0 : Int) - 1) = ((T0 - 1 : Nat) : Int) := by rw [IntKind.wrap_i64]; omega
        unfold cutV at hMX5 HO5
        simp only at hMX5 HO5
        have hcM : cJ ≤ 9223372036854775807 := by unfold maxLen at hcm; omega
        clear hmx5 hO5 hwJ hcc hcell hvJ hd1 hlen hcm
        generalize hLJ : (ls J).length = LJ at *
        generalize hac : (if cJ = 1 then some (⟨g, off, none⟩ : Addr) else some ⟨g, off + 1, none⟩) = a5 at *
        have HLE : Hid (∀ w6, w4.setCell ⟨m, J, none⟩ (.slice a5 (LJ - 1) (cJ - 1)) = w6 → LM w.heap.size (grew S wp w4) (grew S' w4 w6) w6 d m n R (J + 1) (upd vs J (.slice a5 (LJ - 1) (cJ - 1))) (upd ls J t) (upd ls J t) ∧ Below w.heap.size w w6 ∧ Calls Try.prog 9 #[.pointer (some ⟨d, 0, none⟩)] w6 fun e w' => e = .returned (.int .i64 ((T0 - 1 : Nat) : Int)) ∧ w' = w6) := fun w6 hw6 => by
          subst hw6
          have h6 := HM4.out.two hMX5.out HO5.out
          refine ⟨h6, HB4.out.trans (HO5.out.below HB4.out.size (fun g hg => HM4.out.mx.fr g hg)), ?_⟩
          have := llen_any h6.la
          rw [show tot (upd ls J t) n = T0 - 1 from by have := HTS.out; omega] at this
          exact this
        clear hLJ hMX5 HO5 HM4 HB4
        go_wp2_with fail
        obtain ⟨w6, hw6⟩ : ∃ w6, w4.setCell ⟨m, J, none⟩ (.slice a5 (LJ - 1) (cJ - 1)) = w6 := ⟨_, rfl⟩
        rw [hw6]
        obtain ⟨hm6, hb6, hle⟩ := HLE.out w6 (by first | exact hw6 | rfl)
        have HM6 : Hid _ := hm6
        have HB6 : Hid _ := hb6
        clear hm6 hb6 HLE hw6
        refine hle.mono ?_
        rintro e wx ⟨rfl, hwx⟩
        subst wx
        go_wp2
        exact ⟨⟨i + 1, J + 1, _, _, _, _, by rw [show tot (upd ls J t) n = T0 - 1 from by have := HTS.out; omega], by go_num, by omega, HM6.out, HB6.out⟩, by simp [intOf]; omega⟩

end Go.Proofs.Ythaoobfldponpab
