/-
  For every payloads and every cut the law FrameBack returns true: all of joined frames is the payloads; of any front of them just those that are whole in it; no condition.
-/
import Derived.Test.YthhnjiodfbckcaaListIn
import Derived.Test.YthhnjiodfbckcaaTorn
namespace Go.Proofs.Ythhnjiodfbckcaa
open Go.ChangeShapes Go.WideShapes Go.ChangeAt Go.RowKit
open Go.ChangeMaps (open_string shut_string)
set_option linter.unusedVariables false

/-- What All answers, as a list of bytes. -/
theorem rows_sls {N M : Nat} {w : World} {vl : Value} {xs : List FrD} (h : w.ownsRow N 22 1 vl xs.length (xs.map FrD.v)) (hp : ∀ x ∈ xs, Ow M w x.v x.pay) : Sls w.heap.size w vl (xs.map FrD.pay) := by
  rcases h.2 with ⟨h1, h2⟩ | ⟨g, cap, cur, h1, hg, hh, hc1, hc2, hc3, hc4⟩
  · have : xs = [] := List.length_eq_zero_iff.1 h2
    subst this
    exact ⟨none, 0, h1, by simp, by unfold maxLen; omega, .inl rfl⟩
  · refine ⟨some ⟨g, 0, none⟩, cap, by rw [h1, List.length_map], by simpa using hc1, hc2, .inr ⟨g, 0, rfl, (Array.getElem?_eq_some_iff.1 hh).1, fun i hi => ?_⟩⟩
    rw [List.length_map] at hi
    refine ⟨(xs[i]'hi).v, ?_, ?_⟩
    · rw [Nat.mul_one] at hc4
      have : (cur.toList.take xs.length)[i]? = (xs.map FrD.v)[i]? := by rw [hc4]
      rw [List.getElem?_take, if_pos hi, List.getElem?_map, List.getElem?_eq_getElem hi] at this
      simp only [World.cell?, hh, Nat.zero_add]
      simpa using this
    · rw [List.getElem?_map, List.getElem?_eq_getElem hi]
      exact (hp _ (List.getElem_mem hi)).sl (Nat.le_refl _)

theorem bulk_mem (ls : List (List UInt8)) (n : Nat) (h : bulk ls ≤ n) : ∀ p ∈ ls, p.length ≤ n := by
  intro p hp
  have : p.length ≤ bulk ls := by
    unfold bulk
    induction ls with
    | nil => cases hp
    | cons q ls ih =>
      simp only [List.map_cons, List.sum_cons]
      rcases List.mem_cons.1 hp with rfl | hp
      · omega
      · have := ih (by unfold bulk at h ⊢; simp only [List.map_cons, List.sum_cons] at h; omega) hp; omega
  omega

theorem joinB_bulk (ls : List (List UInt8)) : (joinB ls).length = bulk ls + 8 * ls.length := by
  induction ls with
  | nil => rfl
  | cons p ls ih =>
    have : (joinB (p :: ls)).length = 8 + p.length + (joinB ls).length := by simp [joinB, frameB_len]
    rw [this, ih]
    unfold bulk
    simp only [List.map_cons, List.sum_cons, List.length_cons]
    omega

theorem few_long (ls : List (List UInt8)) (h : bulk ls ≤ 4000) : anyLong ls = false := by
  unfold anyLong
  rw [List.any_eq_false]
  intro p hp
  have := bulk_mem ls 4000 h p hp
  simp; omega

theorem pays_of {xs : List FrD} {b : List UInt8} {ls : List (List UInt8)} (h : xs.map FrD.key = framesOf b) (h2 : (framesOf b).map Prod.snd = ls) : xs.map FrD.pay = ls := by
  rw [← h2, ← h, List.map_map]
  rfl

theorem Sls.front {N : Nat} {w : World} {a : Option Addr} {cap : Nat} {ls : List (List UInt8)} (h : Sls N w (.slice a ls.length cap) ls) (k : Nat) (hk : k ≤ ls.length) : Sls N w (.slice a k cap) (ls.take k) := by
  obtain ⟨a1, cap1, e, h1, h2, h3⟩ := h
  cases e
  have hl : (ls.take k).length = k := by simp; omega
  refine ⟨a, cap, by rw [hl], by omega, h2, ?_⟩
  by_cases h0 : k = 0
  · left; subst h0; rfl
  · right
    obtain ⟨b, off, rfl, hb, h4⟩ := h3.resolve_left (by intro h; rw [h] at hk; simp at hk; omega)
    refine ⟨b, off, rfl, hb, fun i hi => ?_⟩
    rw [hl] at hi
    obtain ⟨u, hu, hs⟩ := h4 i (by omega)
    refine ⟨u, hu, ?_⟩
    rw [List.getElem?_take, if_pos hi]
    exact hs

theorem tmod_cut (i : Int) (n : Nat) (hn : n ≤ 1000000000) : ∃ m : Nat, m ≤ n ∧ (wrap64 (wrap64 (i.tmod ((n : Int) + 1) + (n : Int)) + 1)).tmod ((n : Int) + 1) = (m : Int) := by
  have hb1 : -((n : Int) + 1) < i.tmod ((n : Int) + 1) := by have := Int.tmod_lt_of_pos (-i) (show (0 : Int) < (n : Int) + 1 by omega); rw [Int.neg_tmod] at this; omega
  have hb2 : i.tmod ((n : Int) + 1) < (n : Int) + 1 := Int.tmod_lt_of_pos i (by omega)
  generalize i.tmod ((n : Int) + 1) = r at *
  have hw : wrap64 (r + (n : Int)) = r + (n : Int) := by unfold wrap64; omega
  have hw2 : wrap64 (r + (n : Int) + 1) = r + (n : Int) + 1 := by unfold wrap64; omega
  rw [hw, hw2]
  have hp : 0 ≤ r + (n : Int) + 1 := by omega
  rw [Int.tmod_eq_emod_of_nonneg hp]
  have h1 := Int.emod_lt_of_pos (r + (n : Int) + 1) (show (0 : Int) < (n : Int) + 1 by omega)
  have h2 := Int.emod_nonneg (r + (n : Int) + 1) (show (n : Int) + 1 ≠ 0 by omega)
  exact ⟨((r + (n : Int) + 1) % ((n : Int) + 1)).toNat, by omega, by omega⟩

set_option maxRecDepth 100000 in
set_option maxHeartbeats 4000000 in
theorem frameBack_walk0 (v : Value) (ls : List (List UInt8)) (cut : Int) (w : World) (hv : Sls w.heap.size w v ls) (hc1 : cut ≤ 9223372036854775807) (hc2 : -9223372036854775808 ≤ cut) :
    Calls Try.prog 8 #[v, .int .i64 cut] w fun e w' => e = .returned (.bool true) ∧ Below w.heap.size w w' := by
  obtain ⟨a, c, rfl, hlc, hcm, -⟩ := id hv
  unfold maxLen at hcm
  go_enter Try.func8, Try.ntmps8
  go_wp2_with fail
  refine (first_any _).mono ?_
  rintro e w1 ⟨rfl, hB1⟩
  have hz1 := hB1.size
  have hv1 := hv.below hB1
  go_wp2_with fail
  refine (few_any w.heap.size _ ls w1 hv1).mono ?_
  rintro e w' ⟨⟨b, rfl, hb⟩, hw⟩
  subst w'
  cases b with
  | false =>
    clear hb
    go_wp2
    go_ret
    exact ⟨rfl, hB1⟩
  | true =>
    have hbk := hb rfl
    clear hb
    by_cases hl : ls.length ≤ 200
    · have hA := few_long ls hbk
      have hJL := joinB_bulk ls
      have hls : ∀ p ∈ ls, p.length ≤ 1048576 := fun p hp => by have := bulk_mem ls 4000 hbk p hp; omega
      have hJR : joinR ls = (joinB ls, 0) := by unfold joinR; rw [hA]; rfl
      go_wp2_with fail
      refine (join_any w.heap.size _ ls w1 hv1 hz1 (fun _ => by omega)).mono ?_
      rw [hJR]
      rintro e w2 ⟨v2, rfl, hO2, hB2⟩
      obtain ⟨a2, c2, rfl, hac2, hcm2⟩ := hO2.shape
      simp only at hO2 hac2 ⊢
      have hz2 := hB2.size
      have HW2 : Hid (Below w.heap.size w w2) := hB1.trans (hB2.mono hz1)
      have hs2 := hO2.sl (Nat.le_refl w2.heap.size)
      clear hB1 hB2 hv1 hJR
      obtain ⟨p1, p2, p3⟩ := all_join ls [] hls (by decide)
      rw [List.append_nil] at p1 p2 p3
      rw [if_pos rfl] at p3
      have HT : Hid (∀ k m : Nat, m ≤ (joinB ls).length → (joinB (ls.take k)).length ≤ m → (k = ls.length ∨ (k < ls.length ∧ m < (joinB (ls.take k)).length + 8 + (ls[k]?.getD []).length)) →
          (framesOf ((joinB ls).take m)).map Prod.snd = ls.take k ∧ endOf ((joinB ls).take m) = (joinB (ls.take k)).length ∧ allE ((joinB ls).take m) = if (joinB (ls.take k)).length = m then 0 else 2) := fun k m h1 h2 h3 => torn ls k m hls h1 h2 h3
      have HJ : Hid (∀ k, k < ls.length → (joinB (ls.take (k + 1))).length = (joinB (ls.take k)).length + 8 + (ls[k]?.getD []).length) := by
        intro k hk
        rw [joinB_take ls k hk, List.length_append, frameB_len]; omega
      have HJF : Hid (ls.length = ls.length → (joinB (ls.take ls.length)).length = (joinB ls).length) := by intro _; rw [List.take_length]
      have hlb : (joinB ls).length ≤ 5600 := by omega
      generalize hb : joinB ls = b at *
      have HBE : Hid (joinB ls = b) := hb
      clear hb hJL
      go_wp2_with fail
      refine (all_any _ b w2 hs2 (by omega)).mono ?_
      rintro e w3 ⟨xs, vl, rfl, hk3, hrow3, hpay3, -, hB3⟩
      rw [p2, p3]
      have hz3 := hB3.size
      have HW3 : Hid (Below w.heap.size w w3) := HW2.out.trans (hB3.mono (by omega))
      have hS3 := rows_sls hrow3 hpay3
      rw [pays_of hk3 p1] at hS3
      have hs3 := hs2.below hB3
      have hv3 := (hv.below HW3.out).mono HW3.out.size
      clear hB3 hs2 hrow3 hpay3 hk3 p1 p2 p3 hO2
      obtain ⟨al, cl, rfl, -⟩ := id hS3
      go_wp2_with fail
      refine (sameLists_any _ _ _ ls w3 hS3 hv3).mono ?_
      rintro e w4 ⟨rfl, n4, rfl⟩
      have HW4 : Hid (Below w.heap.size w (w3.drewN n4)) := below_drewN HW3.out n4
      have hs4 : Sl w2.heap.size (w3.drewN n4) (.slice a2 b.length c2) b := hs3.below (below_drewN (Below.refl _ _) n4)
      have hz4 : w2.heap.size ≤ (w3.drewN n4).heap.size := hz3
      generalize w3.drewN n4 = w4 at *
      clear hS3 hv3 hs3 HW2 HW3
      obtain ⟨m, hm, hcut⟩ := tmod_cut cut b.length (by omega)
      go_upto_region 11 with (go_at_call 17; refine (num_any _ _).mono ?_; rintro e w' ⟨rfl, hw⟩; subst w')
      try simp only [hcut]
      clear hcut hc1 hc2
      have hs5 := (hs4.cut0 m hm).mono hz4
      unfold maxLen at hcm2
      have hmc : m ≤ c2 := by omega
      have hlt5 : (b.take m).length ≤ 1099511627776 := by simp; omega
      have htl : (b.take m).length = m := by simp; omega
      generalize hbt : b.take m = bt at *
      go_wp2_with fail
      refine (all_any _ bt w4 hs5 hlt5).mono ?_
      rintro e w5 ⟨xs, vl, rfl, hk5, hrow5, hpay5, -, hB5⟩
      have hz5 := hB5.size
      have HW5 : Hid (Below w.heap.size w w5) := HW4.out.trans (hB5.mono (by have := HW4.out.size; omega))
      have hS5 := rows_sls hrow5 hpay5
      have hv5 := hv.below HW5.out
      clear hB5 hs4 hs5 hrow5 hpay5
      have HK5 : Hid (∀ ks, (framesOf bt).map Prod.snd = ks → xs.map FrD.pay = ks) := fun ks h => pays_of hk5 h
      clear hk5
      generalize xs.map FrD.pay = ps at *
      obtain ⟨al5, cl5, rfl, -⟩ := id hS5
      go_wp2_with fail
      go_loop [16, 17] (fun i s => ∃ k q : Nat, i = .int .i64 (k : Int) ∧ s = .int .i64 (q : Int) ∧ k ≤ ls.length ∧ q = (joinB (ls.take k)).length ∧ q ≤ m) (fun i _ => ls.length - (intOf i).toNat)
      case atStart => exact ⟨0, 0, rfl, rfl, by omega, rfl, by omega⟩
      case round =>
        obtain ⟨k, q, rfl, rfl, hk, hq, hqm⟩ := hrel
        have HQ : Hid (q = (joinB (ls.take k)).length) := hq
        clear hq
        have FIN : Hid ((k = ls.length ∨ (k < ls.length ∧ m < q + 8 + (ls[k]?.getD []).length)) → ps = ls.take k ∧ endOf bt = q ∧ allE bt = if q = m then 0 else 2) := by
          intro h
          have := HT.out k m hm (by rw [← HQ.out]; exact hqm) (by rw [← HQ.out]; exact h)
          rw [hbt, ← HQ.out] at this
          exact ⟨HK5.out _ this.1, this.2⟩
        have hfin : (k = ls.length ∨ (k < ls.length ∧ m < q + 8 + (ls[k]?.getD []).length)) → Hid (Calls Try.prog 24 #[.slice al5 ps.length cl5, .slice a k c] w5 fun e w' => e = .returned (.bool true) ∧ Below w.heap.size w w') := by
          intro h
          obtain ⟨h1, h2, h3⟩ := FIN.out h
          have hf := (hv5.front k hk).mono HW5.out.size
          rw [← h1] at hf
          refine Calls.mono (sameLists_any _ _ _ ps w5 hS5 hf) ?_
          rintro e w6 ⟨rfl, n6, rfl⟩
          exact ⟨rfl, below_drewN HW5.out n6⟩
        have hkc : k ≤ c := by omega
        by_cases hlt : k < ls.length
        · obtain ⟨b1, off1, ua, uc, rfl, hu, hsu⟩ := hv5.at k hlt
          have hul : (ls[k]?.getD []).length ≤ 4000 := by
            rw [List.getElem?_eq_getElem hlt]; exact bulk_mem ls 4000 hbk _ (List.getElem_mem hlt)
          have HJK := HJ.out k hlt
          rw [← HQ.out] at HJK
          by_cases hfit : q + 8 + (ls[k]?.getD []).length ≤ m
          · have HJ2 : Hid ((joinB (ls.take (k + 1))).length = q + 8 + (ls[k]?.getD []).length) := HJK
            clear hfin FIN hsu HJK hS5
            generalize ls[k]?.getD [] = l at *
            go_wp2
            go_round
            case rel => exact ⟨k + 1, q + 8 + l.length, by go_num, by go_num, by omega, HJ2.out.symm, by omega⟩
            case measure => simp [intOf]; omega
          · have CS := hfin (.inr ⟨hlt, by omega⟩)
            obtain ⟨f1, f2, f3⟩ := FIN.out (.inr ⟨hlt, by omega⟩)
            clear f1 hfin FIN hsu HJK hS5
            generalize ls[k]?.getD [] = l at *
            rw [f2, f3]
            by_cases hqe : q = m
            · have hqe' : ((q : Int) == (m : Int)) = true := by rw [beq_iff_eq]; omega
              rw [if_pos hqe]
              clear hqe f2 f3
              go_wp2_with (first
                | (go_at_call 17; refine (num_any _ _).mono ?_; rintro e w' ⟨rfl, hw⟩; subst w')
                | (go_at_call 24; refine CS.out.mono ?_; rintro e w6 ⟨rfl, hB6⟩))
              go_ret
              exact ⟨rfl, hB6⟩
            · have hqe' : ((q : Int) == (m : Int)) = false := by rw [beq_eq_false_iff_ne]; omega
              rw [if_neg hqe]
              clear hqe f2 f3
              go_wp2_with (first
                | (go_at_call 17; refine (num_any _ _).mono ?_; rintro e w' ⟨rfl, hw⟩; subst w')
                | (go_at_call 24; refine CS.out.mono ?_; rintro e w6 ⟨rfl, hB6⟩))
              go_ret
              exact ⟨rfl, hB6⟩
        · have hke : k = ls.length := by omega
          have CS := hfin (.inl hke)
          obtain ⟨f1, f2, f3⟩ := FIN.out (.inl hke)
          clear f1 hfin FIN hS5 hke
          rw [f2, f3]
          by_cases hqe : q = m
          · have hqe' : ((q : Int) == (m : Int)) = true := by rw [beq_iff_eq]; omega
            rw [if_pos hqe]
            clear hqe f2 f3
            go_wp2_with (first
              | (go_at_call 17; refine (num_any _ _).mono ?_; rintro e w' ⟨rfl, hw⟩; subst w')
              | (go_at_call 24; refine CS.out.mono ?_; rintro e w6 ⟨rfl, hB6⟩))
            go_ret
            exact ⟨rfl, hB6⟩
          · have hqe' : ((q : Int) == (m : Int)) = false := by rw [beq_eq_false_iff_ne]; omega
            rw [if_neg hqe]
            clear hqe f2 f3
            go_wp2_with (first
              | (go_at_call 17; refine (num_any _ _).mono ?_; rintro e w' ⟨rfl, hw⟩; subst w')
              | (go_at_call 24; refine CS.out.mono ?_; rintro e w6 ⟨rfl, hB6⟩))
            go_ret
            exact ⟨rfl, hB6⟩
    · have hl' : decide ((200 : Int) < (ls.length : Int)) = true := by simp; omega
      go_wp2
      go_ret
      exact ⟨rfl, hB1⟩
set_option maxRecDepth 100000 in
theorem frameBack_lifted (os : Os) (started : os.Started) (H : Type) (enc : TypeId × Value → H) :
    ReturnsInHanded {} Try.checked os 8 .any (Rows.frameBackSpec.pre6 enc Try.prog Try.f8 Rows.frameBackRow.domain false) (Rows.frameBackSpec.post enc Try.prog Try.f8 false true false false) := by
  refine returnsInHanded_of_change (C := Try.checked) own started (by kernel_rfl) Try.func8
    (ChangeSpec.witness6 (enc := enc) (C := Try.checked) false ⟨#[], #[.slice none 0 0, .int .i64 0], []⟩ 8 (by kernel_rfl) (by kernel_rfl) (by kernel_rfl) (by kernel_rfl)) ?_
  intro W base args ds gs before hval0 hW hcnd _
  have hval : ∀ (j : Nat) t v, Try.f8.params[j]? = some t → args[j]? = some v → Value.okWide Try.prog W .any base t v := hval0
  have hW' := hW
  obtain ⟨p, q, hA0, hV, rfl, hfz, hnd⟩ := hW
  have hA : DataW.TrodAll enc Try.prog W 0 (fun _ => true) true Try.f8.params.toList args.toList ds p := hA0
  rw [Try.params8] at hA hval
  obtain ⟨v0, vs0, d0, ds0, p0, q0, hargs, rfl, rfl, h0, r0⟩ := trodAll_cons hA
  obtain ⟨v1, vs1, d1, ds1, p1, q1, rfl, rfl, rfl, h1, r1⟩ := trodAll_cons r0
  obtain ⟨rfl, rfl, rfl⟩ := trodAll_nil r1
  obtain rfl : args = #[v0, v1] := by cases args; simp_all
  obtain ⟨rfl, rfl⟩ := trodVars_none hV
  obtain ⟨a0, len0, cap0, rfl⟩ := okWide_slice Try.underlying40 (hval 0 40 v0 rfl rfl)
  have k0 := h0
  have lt0 : ∀ x ∈ p0, x.block < W.heap.size := by obtain ⟨m, hm⟩ := k0; exact DataW.trod_lt m _ _ _ hm
  obtain ⟨ls, w0⟩ : ∃ ls, Sls W.heap.size W (.slice a0 len0 cap0) ls := by
    obtain ⟨fuel, hf⟩ := h0
    exact open_lists hf
  obtain ⟨a1, rfl, rfl, rfl, w1⟩ := open_int Try.underlying3 (hval 1 3 v1 rfl rfl) h1
  clear hA0 hval0
  have hb1 := bounds_i64 w1
  refine (frameBack_walk0 _ ls a1 W w0 hb1.2 hb1.1).mono fun e W' ⟨he, bel⟩ => ?_
  subst he
  exact ⟨_, rfl, _, _, _, [], _, [], hW', trodAll_mk1 (shut_bool Try.underlying4 _), (trodAll_cons_mk (Below.trod laidOut (by kernel_rfl) (of_decide_eq_true (by kernel_rfl)) k0 bel lt0) (trodAll_cons_mk (shut_int Try.underlying3 w1) trodAll_mk0)), rfl, bel.frame _, fun h => by cases h⟩

theorem frameBack_holds : Rows.FrameBackSaid :=
  OpenClaim.holds_of_wide 8 Try.f8 rfl rfl rfl rfl rfl rfl rfl ⟨rfl, rfl, rfl, rfl, rfl⟩ rfl rfl rfl rfl rfl (by kernel_rfl) Try.func8 (by kernel_rfl)
    (of_decide_eq_true (by kernel_rfl)) (by unfold Func.isWrapper; first | (rw [if_pos (by decide +kernel)]; kernel_rfl) | (rw [if_neg (by decide +kernel)]; exact ⟨rfl, rfl⟩))
    (fun os started H enc _ => frameBack_lifted os started H enc)
#print axioms frameBack_holds
end Go.Proofs.Ythhnjiodfbckcaa
