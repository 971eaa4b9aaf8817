/-
  For every payloads the law FrameJoins returns true: their frames are the document's, and what was handed in stays; no condition.
-/
import Derived.Test.YthhnjiodfbckcaaBack
namespace Go.Proofs.Ythhnjiodfbckcaa
open Go.ChangeShapes Go.WideShapes Go.ChangeAt Go.RowKit
open Go.ChangeMaps (open_string shut_string)
set_option linter.unusedVariables false

/-- What was lent: its bytes and the mark behind them lie in memory of the call's own. -/
def LentP (N : Nat) (W : World) (x : FrD) : Prop := ∃ g, x.a = some ⟨g, 0, none⟩ ∧ Ow N W (.slice (some ⟨g, 0, none⟩) (x.pay.length + 1) x.cap) (x.pay ++ [201])

theorem LentP.sl {N : Nat} {W : World} {x : FrD} (h : LentP N W x) : Sl W.heap.size W x.v x.pay := by
  obtain ⟨g, hg, hO⟩ := h
  unfold FrD.v
  rw [hg]
  exact hO.lent (Nat.le_refl _)

theorem LentP.below {N B : Nat} {W W' : World} {x : FrD} (h : LentP N W x) (hB : Below B W W') (hs : W.heap.size ≤ B) : LentP N W' x := by
  obtain ⟨g, hg, hO⟩ := h
  exact ⟨g, hg, hO.below hB hs⟩

theorem lists_sls {N : Nat} {w : World} {vl : Value} {xs : List FrD} (h : w.ownsRow N 22 1 vl xs.length (xs.map FrD.v)) (hp : ∀ x ∈ xs, Sl w.heap.size w x.v x.pay) : Sls w.heap.size w vl (xs.map FrD.pay) := by
  rcases h.2 with ⟨h1, h2⟩ | ⟨g, cap, cur, h1, hg, hh, hc1, hc2, hc3, hc4⟩
  · have : xs = [] := List.length_eq_zero_iff.1 h2
    subst this
    exact ⟨none, 0, h1, by simp, by unfold maxLen; omega, .inl rfl⟩
  · refine ⟨some ⟨g, 0, none⟩, cap, by rw [h1, List.length_map], by simpa using hc1, hc2, .inr ⟨g, 0, rfl, (Array.getElem?_eq_some_iff.1 hh).1, fun i hi => ?_⟩⟩
    rw [List.length_map] at hi
    refine ⟨(xs[i]'hi).v, ?_, ?_⟩
    · rw [Nat.mul_one] at hc4
      have : (cur.toList.take xs.length)[i]? = (xs.map FrD.v)[i]? := by rw [hc4]
      rw [List.getElem?_take, if_pos hi, List.getElem?_map, List.getElem?_eq_getElem hi] at this
      simp only [World.cell?, hh, Nat.zero_add]
      simpa using this
    · rw [List.getElem?_map, List.getElem?_eq_getElem hi]
      exact hp _ (List.getElem_mem hi)

theorem row_cell {N : Nat} {w : World} {oa : Option Addr} {n oc : Nat} {xs : List FrD} (h : w.ownsRow N 22 1 (.slice oa n oc) xs.length (xs.map FrD.v)) (k : Nat) (hk : k < xs.length) :
    ∃ b, oa = some ⟨b, 0, none⟩ ∧ w.cell? ⟨b, k, none⟩ = some (xs[k]'hk).v := by
  rcases h.2 with ⟨h1, h2⟩ | ⟨g, cap, cur, h1, hg, hh, hc1, hc2, hc3, hc4⟩
  · omega
  · cases h1
    refine ⟨g, rfl, ?_⟩
    rw [Nat.mul_one] at hc4
    have : (cur.toList.take xs.length)[k]? = (xs.map FrD.v)[k]? := by rw [hc4]
    rw [List.getElem?_take, if_pos hk, List.getElem?_map, List.getElem?_eq_getElem hk] at this
    simp only [World.cell?, hh]
    simpa using this

/-- One lent list more. -/
theorem lent_more {N : Nat} {W w1 : World} {v v' : Value} {xs : List FrD} {x : FrD} {tmp : Obj} (hN : N ≤ W.heap.size)
    (hrow : W.ownsRow N 22 1 v xs.length (xs.map FrD.v)) (hp : ∀ y ∈ xs, LentP N W y) (hx : LentP N W x)
    (hown' : w1.ownsRow N 22 1 v' (xs.length + 1) (xs.map FrD.v ++ [x.v])) (hgrow : (W.alloc tmp).grownBy w1 v.ownBlock) :
    w1.ownsRow N 22 1 v' (xs ++ [x]).length ((xs ++ [x]).map FrD.v) ∧ (∀ y ∈ xs ++ [x], LentP N w1 y) ∧ Below N W w1 := by
  have keep : ∀ y, LentP N W y → LentP N w1 y := by
    rintro y ⟨g, hg, hO⟩
    refine ⟨g, hg, (hO.alloc tmp).kept hgrow ?_⟩
    rcases hrow.2 with ⟨h, _⟩ | ⟨g2, cap, cur, h, _, hgb, _⟩
    · rw [h]; exact .inr (by simp [Value.ownBlock])
    · right; rw [h]; exact hO.not_at hgb (by decide)
  refine ⟨by simpa using hown', fun y hy => ?_, ?_⟩
  · rcases List.mem_append.1 hy with h | h
    · exact keep y (hp y h)
    · obtain rfl : y = x := by simpa using h
      exact keep y hx
  · refine ((Below.refl N W).alloc hN tmp).grown hgrow (by simp; omega) fun k e => ?_
    exact (World.ownsRow.lt hrow k e).1

set_option maxRecDepth 100000 in
set_option maxHeartbeats 4000000 in
theorem frameJoins_walk0 (v : Value) (ls : List (List UInt8)) (w : World) (hv : Sls w.heap.size w v ls) :
    Calls Try.prog 6 #[v] w fun e w' => e = .returned (.bool true) ∧ Below w.heap.size w w' := by
  obtain ⟨i0, hi, hz0, hz1', hz2'⟩ := info_parts info22
  obtain ⟨a, c, rfl, hlc, hcm, -⟩ := id hv
  unfold maxLen at hcm
  go_enter Try.func6, Try.ntmps6
  go_wp2_with fail
  refine (first_any _).mono ?_
  rintro e w1 ⟨rfl, hB1⟩
  have hz1 := hB1.size
  have hv1 := hv.below hB1
  go_wp2_with fail
  refine (few_any w.heap.size _ ls w1 hv1).mono ?_
  rintro e w' ⟨⟨b, rfl, hb⟩, hw⟩
  subst w'
  cases b with
  | false =>
    clear hb
    go_wp2
    go_ret
    exact ⟨rfl, hB1⟩
  | true =>
    have hbk := hb rfl
    clear hb
    by_cases hl : ls.length ≤ 200
    · have hA := few_long ls hbk
      have hJL := joinB_bulk ls
      have hJR : joinR ls = (joinB ls, 0) := by unfold joinR; rw [hA]; rfl
      have HA : Hid (anyLong ls = false) := hA
      have HJL : Hid ((joinB ls).length ≤ 536870912) := by unfold Hid; omega
      have HJR : Hid (joinR ls = (joinB ls, 0)) := hJR
      have HV : Hid (Sls w.heap.size w (.slice a ls.length c) ls) := hv
      have HB1 : Hid (Below w.heap.size w w1) := hB1
      clear hA hJL hJR hv1 hv hB1
      go_wp2_with fail
      go_loopw [5, 6] (fun o i wr => ∃ (k : Nat) (xs : List FrD), i = .int .i64 (k : Int) ∧ k ≤ ls.length ∧ xs.length = k ∧ xs.map FrD.pay = ls.take k ∧ (∃ oa oc, o = .slice oa k oc) ∧ wr.ownsRow w1.heap.size 22 1 o xs.length (xs.map FrD.v) ∧ (∀ y ∈ xs, LentP w1.heap.size wr y) ∧ Below w1.heap.size w1 wr) (fun _ i _ => ls.length - (intOf i).toNat)
      case atStart => exact ⟨0, [], rfl, by omega, rfl, rfl, ⟨none, 0, rfl⟩, World.ownsRow_nil _ _ _ _, (fun y hy => by cases hy), Below.refl _ _⟩
      case round =>
        obtain ⟨k, xs, rfl, hk, hxl, hpay, ⟨oa, oc, rfl⟩, hrow, hlp, hB⟩ := hrel
        have hz := hB.size
        have hBw : Below w.heap.size w wr := HB1.out.trans (hB.mono hz1)
        by_cases hlt : k < ls.length
        · obtain ⟨b1, off1, ua, uc, rfl, hu, hsu⟩ := (HV.out.below hBw).at k hlt
          have hul : (ls[k]?.getD []).length ≤ 4000 := by
            rw [List.getElem?_eq_getElem hlt]; exact bulk_mem ls 4000 hbk _ (List.getElem_mem hlt)
          have CL : Hid (Calls Try.prog 10 #[.slice ua (ls[k]?.getD []).length uc] wr fun e w' => ∃ x : FrD, e = .returned x.v ∧ x.pay = ls[k]?.getD [] ∧ LentP w1.heap.size w' x ∧ Below wr.heap.size wr w') := by
            refine Calls.mono (lent_any w.heap.size _ _ wr hsu hBw.size (by omega)) ?_
            rintro e w' ⟨g, cap, rfl, hO, hB'⟩
            exact ⟨⟨0, ls[k]?.getD [], some ⟨g, 0, none⟩, cap⟩, rfl, rfl, ⟨g, rfl, hO.base hz⟩, hB'⟩
          have HR : Hid (∀ (x : FrD) w2, x.pay = ls[k]?.getD [] → LentP w1.heap.size w2 x → Below wr.heap.size wr w2 → w2.ownsRow w1.heap.size 22 1 (.slice oa k oc) k (xs.map FrD.v) ∧ w1.heap.size ≤ w2.heap.size ∧
              ∀ v' w3, w3.ownsRow w1.heap.size 22 1 v' (k + 1) (xs.map FrD.v ++ [x.v]) → (w2.alloc (.cells #[x.v] 22)).grownBy w3 (Value.slice oa k oc).ownBlock →
                ∃ ys : List FrD, ys.length = k + 1 ∧ ys.map FrD.pay = ls.take (k + 1) ∧ w3.ownsRow w1.heap.size 22 1 v' ys.length (ys.map FrD.v) ∧ (∀ y ∈ ys, LentP w1.heap.size w3 y) ∧ Below w1.heap.size w1 w3) := by
            intro x w2 hxp hxL hB2
            have hrow2 : w2.ownsRow w1.heap.size 22 1 (.slice oa k oc) xs.length (xs.map FrD.v) := hrow.kept (Below.grownBy' hB2 none) (by
              cases e : (Value.slice oa k oc).ownBlock with
              | none => exact .inl rfl
              | some k => exact .inr (by simp))
            have hz2 := Nat.le_trans hz hB2.size
            refine ⟨by rw [hxl] at hrow2; exact hrow2, hz2, fun v' w3 ho hg => ?_⟩
            obtain ⟨r1, r2, r3⟩ := lent_more hz2 hrow2 (fun y hy => (hlp y hy).below hB2 (Nat.le_refl _)) hxL (by rw [hxl]; exact ho) hg
            refine ⟨xs ++ [x], by simp [hxl], ?_, r1, r2, (hB.trans (hB2.mono hz)).trans r3⟩
            rw [List.map_append, hpay, List.take_succ_eq_append_getElem hlt]
            simp [hxp, List.getElem?_eq_getElem hlt]
          have hkl : k ≤ 200 := by omega
          clear hrow hlp hB hBw hsu hpay hxl HV
          generalize ls[k]?.getD [] = l at *
          go_wp2_with (first
            | (go_at_call 10; refine CL.out.mono ?_; rintro e w2 ⟨x, rfl, hxp, hxL, hB2⟩; obtain ⟨hrow2, hz2, HF⟩ := HR.out x w2 hxp hxL hB2; obtain ⟨xpl, xp, xa, xc⟩ := x; simp only [FrD.v] at *; subst hxp)
            | (at_builtin; refine wpList_append_own_at _ rfl _ _ 40 rfl w1.heap.size 22 i0 (.slice none 0 0) 1 24 Try.underlying40 hi hz0 hz1' hz2' rfl (by decide) _ _ _ rfl (hrow2.alloc _) ⟨w2.heap.size, 0, none⟩ 1 1 [.slice xa xp.length xc] rfl rfl (cell_one_new _ _ _) (by simp [Value.oneCell']) (by unfold maxLen; omega) (by omega) (by simp; omega) ?_; intro v' w3 hown' hgrow _ hnew; obtain ⟨ys, hF⟩ := HF v' w3 hown' hgrow; obtain ⟨g', cap', rfl⟩ := ownsRow_succ hown'; clear hown' hgrow hnew HF))
          go_roundw
          case rel => exact ⟨k + 1, ys, by go_num, by omega, hF.1, hF.2.1, ⟨_, _, rfl⟩, hF.2.2.1, hF.2.2.2.1, hF.2.2.2.2⟩
          case measure => simp [intOf]; omega
        · have hke : ls.take k = ls := List.take_of_length_le (by omega)
          rw [hke] at hpay
          have hkl : k = ls.length := by omega
          subst hkl
          clear hke hlt hk
          have hS : Sls wr.heap.size wr (.slice oa ls.length oc) ls := by
            have := lists_sls hrow (fun x hx => (hlp x hx).sl)
            rwa [hpay] at this
          have CJ := join_any wr.heap.size _ ls wr hS (Nat.le_refl _) (fun _ => HJL.out)
          rw [HJR.out] at CJ
          simp only at CJ
          have HX : Hid (∀ w6, Below wr.heap.size wr w6 → ∀ k, k < ls.length → ∃ b g cap, oa = some ⟨b, 0, none⟩ ∧ w6.cell? ⟨b, k, none⟩ = some (.slice (some ⟨g, 0, none⟩) (ls[k]?.getD []).length cap) ∧ Ow w1.heap.size w6 (.slice (some ⟨g, 0, none⟩) ((ls[k]?.getD []).length + 1) cap) ((ls[k]?.getD []) ++ [201])) := by
            intro w6 hB6 k hk
            have hxk : k < xs.length := by omega
            obtain ⟨b, hb, hc⟩ := row_cell hrow k hxk
            obtain ⟨g, hg, hO⟩ := hlp (xs[k]'hxk) (List.getElem_mem hxk)
            have hp : (xs[k]'hxk).pay = ls[k]?.getD [] := by
              have : (xs.map FrD.pay)[k]? = ls[k]? := by rw [hpay]
              rw [List.getElem?_map, List.getElem?_eq_getElem hxk] at this
              rw [← this]; rfl
            rw [hp] at hO
            have hbl : b < wr.heap.size := cell_lt hc
            refine ⟨b, g, (xs[k]'hxk).cap, hb, ?_, hO.below hB6 (Nat.le_refl _)⟩
            rw [(hB6.cell (p := ⟨b, k, none⟩) hbl), hc]
            unfold FrD.v
            rw [hg, hp]
          clear hrow hlp hpay hxl hS
          have hlt : decide ((ls.length : Int) < (ls.length : Int)) = false := by simp
          have hocb : ls.length ≤ 1000 := by omega
          go_wp2_with (go_at_call 27; refine CJ.mono ?_; rintro e w4 ⟨v4, rfl, hJ4, hB4⟩; obtain ⟨a4, c4, rfl, -⟩ := hJ4.shape; have hBw4 := hBw.trans (hB4.mono (Nat.le_trans hz1 hz)))
          refine (refJoin_any w.heap.size _ ls w4 (HV.out.below hBw4) hBw4.size HA.out HJL.out).mono ?_
          rintro e w5 ⟨v5, rfl, hJ5, hB5⟩
          obtain ⟨a5, c5, rfl, -⟩ := hJ5.shape
          have hz4 := hB4.size
          have hz5 := hB5.size
          have hBw5 := hBw4.trans (hB5.mono hBw4.size)
          have hB45 := hB4.trans (hB5.mono hz4)
          have s1 := (hJ4.below hB5 (Nat.le_refl _)).sl (Nat.le_refl w5.heap.size)
          have s2 := hJ5.sl (Nat.le_refl w5.heap.size)
          clear hJ4 hJ5 hB4 hB5 hBw4 CJ
          go_wp2_with fail
          refine (same_any _ _ _ _ _ w5 s1 s2).mono ?_
          rintro e w6 ⟨rfl, n6, rfl⟩
          simp only [decide_true]
          have hBw6 := below_drewN hBw5 n6
          have hB6 := below_drewN hB45 n6
          generalize w5.drewN n6 = w6 at *
          clear s1 s2 hBw5 hB45
          have hHX := HX.out w6 hB6
          have hLX := fun k hk => (HV.out.below hBw6).at k hk
          have HBW : Hid (Below w.heap.size w w6) := hBw6
          have HHX : Hid (∀ k, k < ls.length → ∃ b g cap, oa = some ⟨b, 0, none⟩ ∧ w6.cell? ⟨b, k, none⟩ = some (.slice (some ⟨g, 0, none⟩) (ls[k]?.getD []).length cap) ∧ Ow w1.heap.size w6 (.slice (some ⟨g, 0, none⟩) ((ls[k]?.getD []).length + 1) cap) ((ls[k]?.getD []) ++ [201])) := hHX
          have HVV : Hid (Sls w.heap.size w6 (.slice a ls.length c) ls) := HV.out.below hBw6
          clear hHX hLX HX hB6 hBw6 hBw hB HV HB1
          generalize (joinB ls).length = jl at *
          go_wp2
          go_loopw [12] (fun i wx => ∃ k n : Nat, i = .int .i64 (k : Int) ∧ k ≤ ls.length ∧ wx = w6.drewN n) (fun i _ => ls.length - (intOf i).toNat)
          case atStart => exact ⟨0, 0, rfl, by omega, rfl⟩
          case round =>
            obtain ⟨k, n, rfl, hk, hwr⟩ := hrel
            have HWR : Hid (wr = w6.drewN n) := hwr
            clear hwr
            by_cases hlt2 : k < ls.length
            · obtain ⟨b2, g2, cap2, rfl, hc1, hO1⟩ := HHX.out k hlt2
              obtain ⟨b3, off3, ua, uc, rfl, hc2, hs2⟩ := HVV.out.at k hlt2
              have hul : (ls[k]?.getD []).length ≤ 4000 := by
                rw [List.getElem?_eq_getElem hlt2]; exact bulk_mem ls 4000 hbk _ (List.getElem_mem hlt2)
              have hd1 : wr.cell? ⟨b2, k, none⟩ = some (.slice (some ⟨g2, 0, none⟩) (ls[k]?.getD []).length cap2) := by rw [HWR.out]; exact hc1
              have hd2 : wr.cell? ⟨b3, off3 + k, none⟩ = some (.slice ua (ls[k]?.getD []).length uc) := by rw [HWR.out]; exact hc2
              have CK : Hid (∀ m, Calls Try.prog 15 #[.slice (some ⟨g2, 0, none⟩) (ls[k]?.getD []).length cap2, .slice ua (ls[k]?.getD []).length uc] (wr.drewN m) fun e w' => e = .returned (.bool true) ∧ ∃ n', w' = (wr.drewN m).drewN n') := by
                intro m
                rw [HWR.out]
                have hB : Below w6.heap.size w6 ((w6.drewN n).drewN m) := below_drewN (below_drewN (Below.refl _ _) n) m
                exact kept_any w1.heap.size g2 cap2 _ _ _ (by omega) (hO1.below hB (Nat.le_refl _)) ((hs2.mono HBW.out.size).below hB)
              clear hc1 hc2 hO1 hs2 HHX HVV
              generalize ls[k]?.getD [] = l at *
              go_wp2
              go_quiet (first | (go_at_call 15; refine Calls.quiet_of (CK.out _)))
              go_wp2
              go_roundw
              case rel => exact ⟨k + 1, n + nq, by go_num, by omega, by rw [HWR.out]; simp⟩
              case measure => simp [intOf]; omega
            · have hlt3 : decide ((k : Int) < (ls.length : Int)) = false := by simp; omega
              have hBf : Below w.heap.size w wr := by rw [HWR.out]; exact below_drewN HBW.out n
              go_wp2_with (go_at_call 17; refine (num_any _ _).mono ?_; rintro e w' ⟨rfl, hw⟩; subst w')
              go_ret
              exact ⟨rfl, hBf⟩
    · have hl' : decide ((200 : Int) < (ls.length : Int)) = true := by simp; omega
      go_wp2
      go_ret
      exact ⟨rfl, hB1⟩
set_option maxRecDepth 100000 in
theorem frameJoins_lifted (os : Os) (started : os.Started) (H : Type) (enc : TypeId × Value → H) :
    ReturnsInHanded {} Try.checked os 6 .any (Rows.frameJoinsSpec.pre6 enc Try.prog Try.f6 Rows.frameJoinsRow.domain false) (Rows.frameJoinsSpec.post enc Try.prog Try.f6 false true false false) := by
  refine returnsInHanded_of_change (C := Try.checked) own started (by kernel_rfl) Try.func6
    (ChangeSpec.witness6 (enc := enc) (C := Try.checked) false ⟨#[], #[.slice none 0 0], []⟩ 8 (by kernel_rfl) (by kernel_rfl) (by kernel_rfl) (by kernel_rfl)) ?_
  intro W base args ds gs before hval0 hW hcnd _
  have hval : ∀ (j : Nat) t v, Try.f6.params[j]? = some t → args[j]? = some v → Value.okWide Try.prog W .any base t v := hval0
  have hW' := hW
  obtain ⟨p, q, hA0, hV, rfl, hfz, hnd⟩ := hW
  have hA : DataW.TrodAll enc Try.prog W 0 (fun _ => true) true Try.f6.params.toList args.toList ds p := hA0
  rw [Try.params6] at hA hval
  obtain ⟨v0, vs0, d0, ds0, p0, q0, hargs, rfl, rfl, h0, r0⟩ := trodAll_cons hA
  obtain ⟨rfl, rfl, rfl⟩ := trodAll_nil r0
  obtain rfl : args = #[v0] := by cases args; simp_all
  obtain ⟨rfl, rfl⟩ := trodVars_none hV
  obtain ⟨a0, len0, cap0, rfl⟩ := okWide_slice Try.underlying40 (hval 0 40 v0 rfl rfl)
  have k0 := h0
  have lt0 : ∀ x ∈ p0, x.block < W.heap.size := by obtain ⟨m, hm⟩ := k0; exact DataW.trod_lt m _ _ _ hm
  obtain ⟨ls, w0⟩ : ∃ ls, Sls W.heap.size W (.slice a0 len0 cap0) ls := by
    obtain ⟨fuel, hf⟩ := h0
    exact open_lists hf
  clear hA0 hval0
  refine (frameJoins_walk0 _ ls W w0).mono fun e W' ⟨he, bel⟩ => ?_
  subst he
  exact ⟨_, rfl, _, _, _, [], _, [], hW', trodAll_mk1 (shut_bool Try.underlying4 _), (trodAll_cons_mk (Below.trod laidOut (by kernel_rfl) (of_decide_eq_true (by kernel_rfl)) k0 bel lt0) trodAll_mk0), rfl, bel.frame _, fun h => by cases h⟩

theorem frameJoins_holds : Rows.FrameJoinsSaid :=
  OpenClaim.holds_of_wide 6 Try.f6 rfl rfl rfl rfl rfl rfl rfl ⟨rfl, rfl, rfl, rfl, rfl⟩ rfl rfl rfl rfl rfl (by kernel_rfl) Try.func6 (by kernel_rfl)
    (of_decide_eq_true (by kernel_rfl)) (by unfold Func.isWrapper; first | (rw [if_pos (by decide +kernel)]; kernel_rfl) | (rw [if_neg (by decide +kernel)]; exact ⟨rfl, rfl⟩))
    (fun os started H enc _ => frameJoins_lifted os started H enc)
#print axioms frameJoins_holds
end Go.Proofs.Ythhnjiodfbckcaa
