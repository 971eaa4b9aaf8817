/-
  Frames read: frame's Get, One; the document's Get, One.
-/
import Derived.Test.YthhnjiodfbckcaaPut
import Derived.Deep.RegionWith
import Derived.Deep.RegionHeld3
import Derived.Deep.CutRange
import Derived.Deep.DrawnRows
namespace Go.Proofs.Ythhnjiodfbckcaa
open Go.RowKit Go.Shelf
attribute [local go_sem ↓] Go.wp_at_zero Go.wp_at_succ

/-- The frame at a place. -/
def getAt (b : List UInt8) (i : Int) : List UInt8 × Nat × Nat := if i < 0 ∨ (b.length : Int) < i then ([], 0, 2) else getFront (b.drop i.toNat)

/-- What Get returns. -/
def Got (w w' : World) (e : Ending) (g : List UInt8 × Nat × Nat) : Prop := ∃ v', e = .returned (.tuple #[v', .int .i64 (g.2.1 : Int), .int .i64 (g.2.2 : Int)]) ∧ Ow w.heap.size w' v' g.1 ∧ Below w.heap.size w w'

theorem getAt_off (b : List UInt8) (i : Int) (h : i < 0 ∨ (b.length : Int) - i < 4) : getAt b i = ([], 0, 2) := by
  unfold getAt
  by_cases h1 : i < 0 ∨ (b.length : Int) < i
  · rw [if_pos h1]
  · rw [if_neg h1]
    unfold getFront
    rw [if_pos (by simp; omega)]

theorem below_drew {N : Nat} {w w1 : World} (h : Below N w w1) : Below N w w1.drew := h.trans ⟨rfl, rfl, rfl, Nat.le_refl _, fun _ _ => rfl⟩

/-- Two pieces in a block. -/
theorem sls_two {N B : Nat} {w : World} {u v : Value} {l m : List UInt8} (hb : w.heap[B]? = some (.cells #[u, v] 22)) (hB : B < N) (hu : Sl N w u l) (hv : Sl N w v m) : Sls N w (.slice (some ⟨B, 0, none⟩) 2 2) [l, m] := by
  refine ⟨_, _, rfl, Nat.le_refl _, by unfold maxLen; simp, .inr ⟨B, 0, rfl, hB, fun i hi => ?_⟩⟩
  rcases (by simp at hi; omega : i = 0 ∨ i = 1) with rfl | rfl
  · exact ⟨u, by simp [World.cell?, hb], hu⟩
  · exact ⟨v, by simp [World.cell?, hb], hv⟩

set_option maxRecDepth 100000 in
set_option maxHeartbeats 2000000 in
theorem get_any (N : Nat) (v : Value) (l : List UInt8) (i : Int) (w : World) (hv : Sl N w v l) (hN : N ≤ w.heap.size) (hl : l.length ≤ 1099511627776) (hi : i ≤ 9223372036854775807) :
    Calls Try.prog 18 #[v, .int .i64 i] w fun e w' => Got w w' e (getAt l i) := by
  obtain ⟨a, cap, rfl, hlc, hcm, h3⟩ := id hv
  unfold maxLen at hcm
  by_cases h0 : i < 0
  · rw [getAt_off l i (.inl h0)]
    have h0' : decide (i < 0) = true := by simp [h0]
    go_enter Try.func18, Try.ntmps18
    go_wp2
    go_ret3
    exact ⟨_, rfl, Ow.nil _ _, Below.refl _ _⟩
  · by_cases h4 : (l.length : Int) - i < 4
    · rw [getAt_off l i (.inr h4)]
      have h0' : decide (i < 0) = false := by simp; omega
      go_enter Try.func18, Try.ntmps18
      go_wp2
      go_ret3
      exact ⟨_, rfl, Ow.nil _ _, Below.refl _ _⟩
    · obtain ⟨k, rfl⟩ := Int.eq_ofNat_of_zero_le (Int.not_lt.1 h0)
      have hkl : k + 4 ≤ l.length := by omega
      have hG : getAt l (k : Int) = getFront (l.drop k) := by unfold getAt; rw [if_neg (by omega)]; simp
      rw [hG]
      clear hG
      have hkc : k ≤ cap := by omega
      obtain ⟨b, off, rfl, -, -⟩ := h3.resolve_left (by intro h; rw [h] at hkl; simp at hkl)
      have hR := hv.cut k l.length (by omega) (Nat.le_refl _) (some ⟨b, off + k, none⟩) (.inr (by simp [Addr.add_lit])) (l.length - k) (cap - k) rfl rfl
      rw [List.take_of_length_le (by simp)] at hR
      have hrl : l.length - k = (l.drop k).length := by simp
      generalize l.drop k = r at *
      have h0' : decide ((k : Int) < 0) = false := by simp
      have h4' : decide ((l.length : Int) - (k : Int) < 4) = false := by simp; omega
      have hkl' : k < l.length := by omega
      have hcm' : cap ≤ 9223372036854775807 := by omega
      have HK : Hid (k + 4 ≤ l.length) := hkl
      have HL : Hid (l.length - k = r.length) := hrl
      clear h3 h0 hv h4 hkl hrl hcm
      go_enter Try.func18, Try.ntmps18
      go_wp2_with fail
      have hkl := HK.out
      have hrl := HL.out
      rw [hrl] at hR ⊢
      have hrc : r.length ≤ cap - k := by rw [← hrl]; omega
      have hrm : cap - k ≤ 9223372036854775807 := by omega
      have hr4 : 4 ≤ r.length := by rw [← hrl]; omega
      have hrx : r.length ≤ 1099511627776 := by rw [← hrl]; omega
      generalize cap - k = rc at *
      generalize off + k = o at *
      clear hrl h4' HL HK hkl' hkl hkc hi hlc hcm' h0'
      refine (wordOf_any N _ r w hR hr4).mono ?_
      rintro e w' ⟨rfl, hw⟩
      subst w'
      have hwl := word4_lt r
      by_cases h5 : 1048576 < word4 r
      · have HG : Hid (getFront r = ([], 0, 3)) := by unfold Hid getFront; rw [if_neg (by omega), if_pos h5]
        go_wp2
        go_ret3
        rw [HG.out]
        exact ⟨_, rfl, Ow.nil _ _, Below.refl _ _⟩
      · by_cases h6 : r.length < 8 + word4 r
        · have HG : Hid (getFront r = ([], 0, 2)) := by unfold Hid getFront; rw [if_neg (by omega), if_neg h5, if_pos h6]
          go_wp2
          go_ret3
          rw [HG.out]
          exact ⟨_, rfl, Ow.nil _ _, Below.refl _ _⟩
        · have HG : Hid (getFront r = if word4 (r.drop 4) ≠ crc (r.take 4 ++ (r.drop 8).take (word4 r)) then ([], 0, 5) else ((r.drop 8).take (word4 r), 8 + word4 r, 0)) := by unfold Hid getFront; rw [if_neg (by omega), if_neg h5, if_neg h6]
          generalize hn : word4 r = n at *
          clear hwl
          have h6' : 8 + n ≤ r.length := by omega
          have h5' : n ≤ 1048576 := by omega
          clear h5 h6 hn
          have CW : Hid (∀ w2, Below w.heap.size w w2 → Calls Try.prog 35 #[.slice (some ⟨b, o + 4, none⟩) (r.length - 4) (rc - 4)] w2 fun e w' => e = .returned (.int .u32 (word4 (r.drop 4) : Int)) ∧ w' = w2) := by
            intro w2 hB
            have := (hR.below (hB.mono hN)).cut 4 r.length (by omega) (Nat.le_refl _) (some ⟨b, o + 4, none⟩) (.inr (by simp [Addr.add_lit])) (r.length - 4) (rc - 4) rfl rfl
            rw [List.take_of_length_le (by simp)] at this
            exact wordOf_any N _ (r.drop 4) w2 this (by simp; omega)
          obtain ⟨a8, h8⟩ : ∃ a8 : Option Addr, (if rc = 8 then some (⟨b, o, none⟩ : Addr) else some ⟨b, o + 8, none⟩) = a8 := ⟨_, rfl⟩
          have ha8 : 8 = 8 + n ∨ a8 = (some (⟨b, o, none⟩ : Addr)).map (fun p => p.add 8) := by
            by_cases h : rc = 8
            · left; omega
            · right; rw [← h8, if_neg h]; simp [Addr.add_lit]
          have hS8 : ∀ w2, Below w.heap.size w w2 → Sl N w2 (.slice a8 n (rc - 8)) ((r.drop 8).take n) := by
            intro w2 hB
            have := (hR.below (hB.mono hN)).cut 8 (8 + n) (by omega) (by omega) a8 ha8 n (rc - 8) (by omega) rfl
            rwa [show 8 + n - 8 = n by omega] at this
          clear ha8
          have CS : Hid (∀ w2, w2.heap[w.heap.size]? = some (.cells #[.slice (some ⟨b, o, none⟩) 4 rc, .slice a8 n (rc - 8)] 22) → Below w.heap.size w w2 → Calls Try.prog 30 #[.slice (some ⟨w.heap.size, 0, none⟩) 2 2] w2 fun e w' => e = .returned (.int .u32 (crc (r.take 4 ++ (r.drop 8).take n) : Int)) ∧ w' = w2) := by
            intro w2 hh hB
            have h1 := ((hR.below (hB.mono hN)).cut0 4 hr4).mono (Nat.le_trans hN (Nat.le_succ _))
            have h2 := (hS8 w2 hB).mono (Nat.le_trans hN (Nat.le_succ _))
            have := sumOf_any _ _ _ _ (sls_two hh (Nat.lt_succ_self _) h1 h2)
            simpa using this
          have CF : Hid (∀ w2, Below w.heap.size w w2 → Calls Try.prog 36 #[.slice a8 n (rc - 8)] w2 fun e w' => ∃ v', e = .returned v' ∧ Ow w2.heap.size w' v' ((r.drop 8).take n) ∧ Below w2.heap.size w2 w') := by
            intro w2 hB
            exact fresh_any N _ _ w2 (hS8 w2 hB) (by simp; omega)
          clear hS8
          go_upto_region 10 with fail
          go_cut [43] from 33 to 43 (fun s wx => s = .bool ((word4 (r.drop 4) : Int) != (crc (r.take 4 ++ (r.drop 8).take n) : Int)) ∧ Below w.heap.size w wx)
          case first =>
            clear CF HG
            have i1 : (4 : Int) ≤ (r.length : Int) := by omega
            have i2 : (0 : Int) ≤ (n : Int) := by omega
            have i3 : (8 : Int) ≤ 8 + (n : Int) := by omega
            have i4 : 8 + (n : Int) ≤ (rc : Int) := by omega
            have i5 : (4 : Int) ≤ (rc : Int) := by omega
            have i6 : (r.length : Int) ≤ (rc : Int) := by omega
            have h44 : (if rc = 4 then some (⟨b, o, none⟩ : Addr) else some ⟨b, o + 4, none⟩) = some ⟨b, o + 4, none⟩ := by rw [if_neg (by omega)]
            have h99 : (8 + (n : Int)).toNat - 8 = n := by omega
            clear hR
            go_region_held3 (fun _ => True) (trivial) (first
              | (go_at_call 35; (try simp only [h44, h8, h99]); refine (CW.out _ ?hb).mono ?_; (case hb => repeat' first | exact Below.refl _ _ | exact (Below.refl _ w).alloc (Nat.le_refl _) _ | refine below_drew ?_); rintro e w' ⟨rfl, hw⟩; subst w')
              | (go_at_call 30; (try simp only [h44, h8, h99]); refine (CS.out _ ?hh ?hb).mono ?_; (case hh => exact World.alloc_heap_new w _); (case hb => repeat' first | exact Below.refl _ _ | exact (Below.refl _ w).alloc (Nat.le_refl _) _ | refine below_drew ?_); rintro e w' ⟨rfl, hw⟩; subst w'))
            all_goals go_wp2_with fail
            all_goals go_meet
            all_goals (case rel => exact ⟨rfl, below_drew ((Below.refl _ w).alloc (Nat.le_refl _) _)⟩)
          case rest =>
            obtain ⟨rfl, hBx⟩ := hcut
            have hzx := hBx.size
            clear CW CS
            by_cases hs : word4 (r.drop 4) = crc (r.take 4 ++ (r.drop 8).take n)
            · have hd : ((word4 (r.drop 4) : Int) != (crc (r.take 4 ++ (r.drop 8).take n) : Int)) = false := by simp [hs]
              rw [if_neg (by simp [hs])] at HG
              rw [hd]
              clear hd hs
              have CF' := CF.out wc hBx
              have hln : n ≤ r.length := by omega
              by_cases h8r : rc = 8
              · subst h8r
                rw [if_pos rfl] at h8
                subst h8
                obtain rfl : n = 0 := by omega
                go_wp2_with (go_at_call 36; refine CF'.mono ?_; rintro e w5 ⟨v5, rfl, hO5, hB5⟩)
                go_ret3
                rw [HG.out]
                exact ⟨_, rfl, hO5.base hzx, hBx.trans (hB5.mono hzx)⟩
              · rw [if_neg h8r] at h8
                subst h8
                have h8' : 8 < rc := by omega
                go_wp2_with (go_at_call 36; refine CF'.mono ?_; rintro e w5 ⟨v5, rfl, hO5, hB5⟩)
                go_ret3
                rw [HG.out]
                exact ⟨_, rfl, hO5.base hzx, hBx.trans (hB5.mono hzx)⟩
            · have hd : ((word4 (r.drop 4) : Int) != (crc (r.take 4 ++ (r.drop 8).take n) : Int)) = true := by rw [bne_iff_ne]; omega
              rw [if_pos hs] at HG
              rw [hd]
              clear hd hs
              go_wp2
              go_ret3
              rw [HG.out]
              exact ⟨_, rfl, Ow.nil _ _, hBx⟩

/-- The payload of the frame that bytes are. -/
def oneOf (l : List UInt8) : List UInt8 × Nat := if (getAt l 0).2.2 = 0 ∧ (getAt l 0).2.1 < l.length then ([], 4) else ((getAt l 0).1, (getAt l 0).2.2)

set_option maxRecDepth 100000 in
set_option maxHeartbeats 1000000 in
/-- frame.One -/
theorem one_any (N : Nat) (v : Value) (l : List UInt8) (w : World) (hv : Sl N w v l) (hN : N ≤ w.heap.size) (hl : l.length ≤ 1099511627776) :
    Calls Try.prog 19 #[v] w fun e w' => ∃ v', e = .returned (.tuple #[v', .int .i64 ((oneOf l).2 : Int)]) ∧ Ow w.heap.size w' v' (oneOf l).1 ∧ Below w.heap.size w w' := by
  have CG := get_any N v l 0 w hv hN hl (by omega)
  obtain ⟨a, cap, rfl, -, hcm, -⟩ := id hv
  unfold maxLen at hcm
  generalize hq : oneOf l = q
  unfold oneOf at hq
  generalize getAt l 0 = g at *
  obtain ⟨p, n, e⟩ := g
  clear hv
  simp only at hq
  have HQ : Hid ((if e = 0 ∧ n < l.length then (([] : List UInt8), 4) else (p, e)) = q) := hq
  clear hq
  go_enter Try.func19, Try.ntmps19
  go_wp2_with fail
  refine CG.mono ?_
  rintro e' w1 ⟨v1, rfl, hO1, hB1⟩
  clear CG
  simp only at hO1 ⊢
  by_cases he : e = 0
  · subst he
    by_cases hn : n < l.length
    · have hn' : decide ((n : Int) < (l.length : Int)) = true := by simp; omega
      have HI : Hid (q = ([], 4)) := by unfold Hid; rw [← HQ.out, if_pos ⟨rfl, hn⟩]
      go_wp2
      go_ret2
      rw [HI.out]
      exact ⟨_, rfl, Ow.nil _ _, hB1⟩
    · have hn' : decide ((n : Int) < (l.length : Int)) = false := by simp; omega
      have HI : Hid (q = (p, 0)) := by unfold Hid; rw [← HQ.out, if_neg (by omega)]
      go_wp2
      go_ret2
      rw [HI.out]
      exact ⟨_, rfl, hO1, hB1⟩
  · have he' : ((e : Int) == 0) = false := by rw [beq_eq_false_iff_ne]; omega
    have HI : Hid (q = (p, e)) := by unfold Hid; rw [← HQ.out, if_neg (fun h => he h.1)]
    go_wp2
    go_ret2
    rw [HI.out]
    exact ⟨_, rfl, hO1, hB1⟩
end Go.Proofs.Ythhnjiodfbckcaa
