/-
  The document's Get and One.
-/
import Derived.Test.YtadajbdmlmickaaGreatDoorJFr
import Derived.Deep.RegionWith
import Derived.Deep.RegionHeld3
import Derived.Deep.CutRange
import Derived.Deep.DrawnRows
namespace Go.Proofs.YtadajbdmlmickaaGreatDoor.Fr
open Go.RowKit Go.Shelf
attribute [local go_sem ↓] Go.wp_at_zero Go.wp_at_succ

/-- An append of bytes onto bytes of the call's own, as a step of a region that draws its order. -/
theorem step_append_ow {ops : Array Oper} {o : Oper} {a : Act} {K : Act → World → Prop} {Q : Exit → Act → World → Prop} {E : Prop} {w : World} (hgd : o.guard = none) (s x : Operand)
    (ho : o.op = .call { callee := .builtin .append, args := #[s, x], argTypes := #[32, 32] })
    (N M : Nat) (v xv : Value) (l m : List UInt8) (hs : a.eval s = v) (hv : Ow N w v l) (hx : a.eval x = xv) (hsl : Sl M w xv m) (hlen : l.length + m.length ≤ 1099511627776) (hN : N ≤ w.heap.size)
    (h : ∀ v' w', Ow N w' v' (l ++ m) → w.grownBy w' v.ownBlock → (v'.ownBlock = v.ownBlock ∨ v'.ownBlock = some w.heap.size) → K (a.put o.dst v') w') :
    if Region.wanted o (yielded ops a.tmps) = true then Oper.wp Tryz.prog o a w K Q else E := by
  have hw : Region.wanted o (yielded ops a.tmps) = true := by simp [Region.wanted, hgd]
  rw [if_pos hw]
  obtain ⟨v', w', hr, h2, h3, h4⟩ := run_append_ow o.type w N M v xv l m hv hsl hlen hN
  unfold Oper.wp execOp
  simp only [ho, resolve, invoke, builtin, Sem.run_bind, Sem.run_pure, Result.andThen_ok, List.map_toArray, List.map_cons, List.map_nil, hs, hx, hr]
  exact h v' w' h2 h3 h4

theorem word4_take (r : List UInt8) (k : Nat) (h : 4 ≤ k) : word4 (r.take k) = word4 r := by
  have e : ∀ i, i < 4 → at0 (r.take k) i = at0 r i := by
    intro i hi
    unfold at0
    rw [List.getElem?_take, if_pos (by omega)]
  unfold word4
  rw [e 0 (by omega), e 1 (by omega), e 2 (by omega), e 3 (by omega)]

theorem getFront_err (r : List UInt8) (h : (getFront r).2.2 ≠ 0) : (getFront r).1 = [] := by
  unfold getFront at h ⊢
  split
  · rfl
  · rename_i h1
    rw [if_neg h1] at h
    split
    · rfl
    · rename_i h2
      rw [if_neg h2] at h
      split
      · rfl
      · rename_i h3
        rw [if_neg h3] at h
        split
        · rfl
        · rename_i h4
          rw [if_neg h4] at h
          simp at h

theorem getAt_err (l : List UInt8) (i : Int) (h : (getAt l i).2.2 ≠ 0) : (getAt l i).1 = [] := by
  unfold getAt at h ⊢
  split
  · rfl
  · rename_i h1
    rw [if_neg h1] at h
    exact getFront_err _ h

set_option maxRecDepth 100000 in
set_option maxHeartbeats 2000000 in
theorem refGet_any (N : Nat) (v : Value) (l : List UInt8) (i : Int) (w : World) (hv : Sl N w v l) (hN : N ≤ w.heap.size) (hl : l.length ≤ 1099511627776) :
    Calls Tryz.prog 83 #[v, .int .i64 i] w fun e w' => Got w w' e (getAt l i) := by
  obtain ⟨a, cap, rfl, hlc, hcm, h3⟩ := id hv
  unfold maxLen at hcm
  by_cases h0 : i < 0
  · rw [getAt_off l i (.inl h0)]
    have h0' : decide (i < 0) = true := by simp [h0]
    go_enter Tryz.func83, Tryz.ntmps83
    go_wp2
    go_ret3
    exact ⟨_, rfl, Ow.nil _ _, Below.refl _ _⟩
  · by_cases h1 : (l.length : Int) < i
    · rw [getAt_off l i (.inr (by omega))]
      have h0' : decide (i < 0) = false := by simp; omega
      have h1' : decide ((l.length : Int) < i) = true := by simp [h1]
      go_enter Tryz.func83, Tryz.ntmps83
      go_wp2
      go_ret3
      exact ⟨_, rfl, Ow.nil _ _, Below.refl _ _⟩
    · obtain ⟨k, rfl⟩ := Int.eq_ofNat_of_zero_le (Int.not_lt.1 h0)
      have h0' : decide ((k : Int) < 0) = false := by simp
      have h1' : decide ((l.length : Int) < (k : Int)) = false := by simp; omega
      by_cases h4 : (l.length : Int) - (k : Int) < 4
      · rw [getAt_off l k (.inr h4)]
        go_enter Tryz.func83, Tryz.ntmps83
        go_wp2
        go_ret3
        exact ⟨_, rfl, Ow.nil _ _, Below.refl _ _⟩
      · have hkl : k + 4 ≤ l.length := by omega
        have hG : getAt l (k : Int) = getFront (l.drop k) := by unfold getAt; rw [if_neg (by omega)]; simp
        rw [hG]
        clear hG
        obtain ⟨b, off, rfl, -, -⟩ := h3.resolve_left (by intro h; rw [h] at hkl; simp at hkl)
        have hcm' : cap ≤ 9223372036854775807 := by omega
        have h4' : decide ((l.length : Int) - (k : Int) < 4) = false := by simp; omega
        have CW0 : Hid (Calls Tryz.prog 114 #[.slice (some ⟨b, off + k, none⟩) 4 (cap - k)] w fun e w' => e = .returned (.int .i64 (word4 (l.drop k) : Int)) ∧ ∃ n, w' = w.drewN n) := by
          have h := hv.cut k (k + 4) (by omega) (by omega) (some ⟨b, off + k, none⟩) (.inr (by simp [Addr.add_lit])) 4 (cap - k) (by omega) rfl
          have := whole_any _ _ _ w h (by simp; omega)
          rw [show k + 4 - k = 4 by omega, word4_take _ 4 (Nat.le_refl _)] at this
          exact this
        have e1 : (k + 4 - k) = 4 := by omega
        have hkc : k < cap := by omega
        clear h3 h0 h4 h1
        go_enter Tryz.func83, Tryz.ntmps83
        go_wp2_with fail
        simp only [e1]
        refine CW0.out.mono ?_
        rintro e w' ⟨rfl, n0, rfl⟩
        have hBn : Below w.heap.size w (w.drewN n0) := (Below.refl _ w).trans ⟨rfl, rfl, rfl, Nat.le_refl _, fun _ _ => rfl⟩
        have hzn : (w.drewN n0).heap.size = w.heap.size := rfl
        generalize w.drewN n0 = w1 at *
        have hwl := word4_lt (l.drop k)
        have HL : Hid ((l.drop k).length = l.length - k) := by unfold Hid; simp
        clear CW0 e1
        by_cases h5 : 1048576 < word4 (l.drop k)
        · have HG : Hid (getFront (l.drop k) = ([], 0, 3)) := by unfold Hid getFront; rw [if_neg (by simp; omega), if_pos h5]
          go_wp2
          go_ret3
          rw [HG.out]
          exact ⟨_, rfl, Ow.nil _ _, hBn⟩
        · by_cases h6 : (l.drop k).length < 8 + word4 (l.drop k)
          · have HG : Hid (getFront (l.drop k) = ([], 0, 2)) := by unfold Hid getFront; rw [if_neg (by simp; omega), if_neg h5, if_pos h6]
            rw [HL.out] at h6
            have h6' : decide ((l.length : Int) - (k : Int) < 8 + (word4 (l.drop k) : Int)) = true := by simp; omega
            generalize word4 (l.drop k) = n at *
            clear h6
            go_wp2
            go_ret3
            rw [HG.out]
            exact ⟨_, rfl, Ow.nil _ _, hBn⟩
          · have HG : Hid (getFront (l.drop k) = if word4 ((l.drop k).drop 4) ≠ crc ((l.drop k).take 4 ++ ((l.drop k).drop 8).take (word4 (l.drop k))) then ([], 0, 5) else (((l.drop k).drop 8).take (word4 (l.drop k)), 8 + word4 (l.drop k), 0)) := by unfold Hid getFront; rw [if_neg (by simp; omega), if_neg h5, if_neg h6]
            rw [HL.out] at h6
            have h6' : decide ((l.length : Int) - (k : Int) < 8 + (word4 (l.drop k) : Int)) = false := by simp; omega
            generalize hnn : word4 (l.drop k) = n at *
            have h7 : k + 8 + n ≤ l.length := by omega
            have h5' : n ≤ 1048576 := by omega
            clear h6 h5 hwl hnn HL hkl
            obtain ⟨a8, h8⟩ : ∃ a8 : Option Addr, (if cap = k + 8 then some (⟨b, off, none⟩ : Addr) else some ⟨b, off + (k + 8), none⟩) = a8 := ⟨_, rfl⟩
            have h9 : k + 8 + n - (k + 8) = n := by omega
            have hSP : ∀ w2, Below w.heap.size w w2 → Sl N w2 (.slice a8 n (cap - (k + 8))) (((l.drop k).drop 8).take n) := by
              intro w2 hB
              have ha8 : k + 8 = k + 8 + n ∨ a8 = (some (⟨b, off, none⟩ : Addr)).map (fun p => p.add (k + 8)) := by
                by_cases h : cap = k + 8
                · left; omega
                · right; rw [← h8, if_neg h]; simp [Addr.add_lit]
              have := (hv.below (hB.mono hN)).cut (k + 8) (k + 8 + n) (by omega) (by omega) a8 ha8 n (cap - (k + 8)) (by omega) rfl
              rw [h9, ← List.drop_drop] at this
              exact this
            have CW : Hid (∀ w2, Below w.heap.size w w2 → Calls Tryz.prog 114 #[.slice (some ⟨b, off + (k + 4), none⟩) 4 (cap - (k + 4))] w2 fun e w' => e = .returned (.int .i64 (word4 ((l.drop k).drop 4) : Int)) ∧ Below w2.heap.size w2 w' ∧ Below w.heap.size w w') := by
              intro w2 hB
              have h := (hv.below (hB.mono hN)).cut (k + 4) (k + 8) (by omega) (by omega) (some ⟨b, off + (k + 4), none⟩) (.inr (by simp [Addr.add_lit])) 4 (cap - (k + 4)) (by omega) rfl
              refine Calls.mono (whole_any _ _ _ w2 h (by simp; omega)) ?_
              rintro e w' ⟨rfl, m, rfl⟩
              refine ⟨?_, (Below.refl _ w2).trans ⟨rfl, rfl, rfl, Nat.le_refl _, fun _ _ => rfl⟩, hB.trans ⟨rfl, rfl, rfl, Nat.le_refl _, fun _ _ => rfl⟩⟩
              rw [show k + 8 - (k + 4) = 4 by omega, word4_take _ 4 (Nat.le_refl _), List.drop_drop]
            have hq4 : ((l.drop k).take 4).length = 4 := by simp; omega
            have CB : Hid (∀ w2, Below w.heap.size w w2 → Calls Tryz.prog 69 #[.slice (some ⟨b, off + k, none⟩) 4 (cap - k)] w2 fun e w' => ∃ a4 c4, e = .returned (.slice a4 4 c4) ∧ Ow w.heap.size w' (.slice a4 4 c4) ((l.drop k).take 4) ∧ Below w.heap.size w w') := by
              intro w2 hB
              have h := (hv.below (hB.mono hN)).cut k (k + 4) (by omega) (by omega) (some ⟨b, off + k, none⟩) (.inr (by simp [Addr.add_lit])) 4 (cap - k) (by omega) rfl
              rw [show k + 4 - k = 4 by omega] at h
              refine Calls.mono (bytes_any N _ _ w2 h (Nat.le_trans hN hB.size) (by simp; omega)) ?_
              rintro e w' ⟨v', rfl, hO, hB'⟩
              obtain ⟨a4, c4, rfl, -⟩ := hO.shape
              rw [hq4] at hO ⊢
              exact ⟨a4, c4, rfl, hO.base hB.size, hB.trans (hB'.mono hB.size)⟩
            have CF : Hid (∀ w2, Below w.heap.size w w2 → Calls Tryz.prog 69 #[.slice a8 n (cap - (k + 8))] w2 fun e w' => ∃ v', e = .returned v' ∧ Ow w.heap.size w' v' (((l.drop k).drop 8).take n) ∧ Below w.heap.size w w') := by
              intro w2 hB
              refine Calls.mono (bytes_any N _ _ w2 (hSP w2 hB) (Nat.le_trans hN hB.size) (by simp; omega)) ?_
              rintro e w' ⟨v', rfl, hO, hB'⟩
              exact ⟨v', rfl, hO.base hB.size, hB.trans (hB'.mono hB.size)⟩
            have hqp : ((l.drop k).take 4 ++ ((l.drop k).drop 8).take n).length = 4 + n := by simp; omega
            have hqb : ((l.drop k).take 4).length + (((l.drop k).drop 8).take n).length ≤ 1099511627776 := by simp; omega
            generalize (l.drop k).take 4 = q4 at *
            generalize ((l.drop k).drop 8).take n = pp at *
            generalize word4 ((l.drop k).drop 4) = ww at *
            go_upto_region 9 with fail
            simp only [h8, h9]
            go_cut [64] from 47 to 64 (fun s wx => s = .bool ((ww : Int) != (crc (q4 ++ pp) : Int)) ∧ Below w.heap.size w wx)
            case first =>
              clear CF HG
              have hcl := crc_lt (q4 ++ pp)
              have hBW := below_drew hBn
              have e44 : (if cap = k + 4 then some (⟨b, off, none⟩ : Addr) else some ⟨b, off + (k + 4), none⟩) = some ⟨b, off + (k + 4), none⟩ := by rw [if_neg (by omega)]
              have e45 : k + 8 - (k + 4) = 4 := by omega
              have e46 : k + 4 - k = 4 := by omega
              have i1 : (0 : Int) ≤ (k : Int) := by omega
              have i2 : (k : Int) + 4 ≤ (k : Int) + 8 := by omega
              have i3 : (k : Int) + 8 ≤ (cap : Int) := by omega
              have i4 : (k : Int) ≤ (k : Int) + 4 := by omega
              have i5 : (k : Int) + 4 ≤ (cap : Int) := by omega
              have i6 : IntKind.i64.wrap ((k : Int) + 4) = (k : Int) + 4 := by rw [IntKind.wrap_i64]; omega
              have i7 : IntKind.i64.wrap ((k : Int) + 8) = (k : Int) + 8 := by rw [IntKind.wrap_i64]; omega
              have i8 : (0 : Int) ≤ (k : Int) + 4 := by omega
              have t4 : ((k : Int) + 4).toNat = k + 4 := by omega
              have t8 : ((k : Int) + 8).toNat = k + 8 := by omega
              have HN2 : Hid (N ≤ w.heap.size) := hN
              clear hv hBn hzn h7 h5' h6' h4' h1' h0' hlc hcm hkc hcm' hl h8
              go_region_held3 (fun _ => True) (trivial) (first
                | (go_at_call 114; (try simp only [t4, t8, e44, e45, e46]); refine (CW.out _ hBW).mono ?_; rintro e w3 ⟨rfl, hB3, hBw3⟩; clear hBW; have hBW := hBw3; clear hBw3; (try (replace hO := hO.below hB3 (Nat.le_refl _))); (try (replace hP := hP.below hB3 (Nat.le_refl _))))
                | (go_at_call 69; (try simp only [t4, t8, e44, e45, e46]); refine (CB.out _ hBW).mono ?_; rintro e w4 ⟨a4, c4, rfl, hO, hBw4⟩; clear hBW; have hBW := hBw4; clear hBw4)
                | (go_at_call 104; refine (refSum_any _ _ (q4 ++ pp) _ (hP.sl (Nat.le_refl _))).mono ?_; rintro e w6 ⟨rfl, hw⟩; subst w6)
                | ((refine step_append_ow (by rfl) _ _ (by rfl) w.heap.size N _ _ q4 pp (by rfl) hO (by rfl) (hSP _ hBW) hqb hBW.size ?_; intro v5 w5 hP hg5 hn5; obtain ⟨a5, c5, hv5, -⟩ := hP.shape; rw [hqp] at hv5; subst hv5; have hBw5 := hBW.trans (below_grown hg5 hBW.size (fun k e => (World.ownsRow.lt hO k e).1)); clear hBW; have hBW := hBw5; clear hBw5 hg5 hn5)))
              all_goals go_wp2_with fail
              all_goals go_meet
              all_goals (case rel => exact ⟨by rw [show IntKind.i64.wrap (crc (q4 ++ pp) : Int) = (crc (q4 ++ pp) : Int) by rw [IntKind.wrap_i64]; omega], hBW⟩)
            case rest =>
              obtain ⟨rfl, hBx⟩ := hcut
              have hzx := hBx.size
              clear CW CB hSP
              by_cases hs : ww = crc (q4 ++ pp)
              · have hd : ((ww : Int) != (crc (q4 ++ pp) : Int)) = false := by simp [hs]
                rw [if_neg (by simp [hs])] at HG
                rw [hd]
                clear hd hs
                have CF' := CF.out wc hBx
                go_wp2_with (go_at_call 69; refine CF'.mono ?_; rintro e w5 ⟨v5, rfl, hO5, hB5⟩)
                go_ret3
                rw [HG.out]
                exact ⟨_, rfl, hO5, hB5⟩
              · have hd : ((ww : Int) != (crc (q4 ++ pp) : Int)) = true := by rw [bne_iff_ne]; omega
                rw [if_pos hs] at HG
                rw [hd]
                clear hd hs
                go_wp2
                go_ret3
                rw [HG.out]
                exact ⟨_, rfl, Ow.nil _ _, hBx⟩

set_option maxRecDepth 100000 in
set_option maxHeartbeats 1000000 in
/-- The document's One. -/
theorem refOne_any (N : Nat) (v : Value) (l : List UInt8) (w : World) (hv : Sl N w v l) (hN : N ≤ w.heap.size) (hl : l.length ≤ 1099511627776) :
    Calls Tryz.prog 43 #[v] w fun e w' => ∃ v', e = .returned (.tuple #[v', .int .i64 ((oneOf l).2 : Int)]) ∧ Ow w.heap.size w' v' (oneOf l).1 ∧ Below w.heap.size w w' := by
  have CG := refGet_any N v l 0 w hv hN hl
  have hnil := getAt_err l 0
  obtain ⟨a, cap, rfl, -, hcm, -⟩ := id hv
  unfold maxLen at hcm
  generalize hq : oneOf l = q
  unfold oneOf at hq
  generalize getAt l 0 = g at *
  obtain ⟨p, n, e⟩ := g
  clear hv
  simp only at hq hnil
  have HQ : Hid ((if e = 0 ∧ n < l.length then (([] : List UInt8), 4) else (p, e)) = q) := hq
  clear hq
  have HNL : Hid (e ≠ 0 → p = []) := hnil
  clear hnil
  go_enter Tryz.func43, Tryz.ntmps43
  go_wp2_with fail
  refine CG.mono ?_
  rintro e' w1 ⟨v1, rfl, hO1, hB1⟩
  clear CG
  simp only at hO1 ⊢
  by_cases he : e = 0
  · subst he
    by_cases hn : n < l.length
    · have hn' : decide ((n : Int) < (l.length : Int)) = true := by simp; omega
      have HI : Hid (q = ([], 4)) := by unfold Hid; rw [← HQ.out, if_pos ⟨rfl, hn⟩]
      go_wp2
      go_ret2
      rw [HI.out]
      exact ⟨_, rfl, Ow.nil _ _, hB1⟩
    · have hn' : decide ((n : Int) < (l.length : Int)) = false := by simp; omega
      have HI : Hid (q = (p, 0)) := by unfold Hid; rw [← HQ.out, if_neg (by omega)]
      go_wp2
      go_ret2
      rw [HI.out]
      exact ⟨_, rfl, hO1, hB1⟩
  · have he' : ((e : Int) != 0) = true := by rw [bne_iff_ne]; omega
    have HI : Hid (q = ([], e)) := by unfold Hid; rw [← HQ.out, if_neg (fun h => he h.1), HNL.out he]
    go_wp2
    go_ret2
    rw [HI.out]
    exact ⟨_, rfl, Ow.nil _ _, hB1⟩
end Go.Proofs.YtadajbdmlmickaaGreatDoor.Fr
