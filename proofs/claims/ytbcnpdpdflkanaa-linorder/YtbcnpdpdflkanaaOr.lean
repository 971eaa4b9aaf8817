/-
  LinOrder.
-/
import Derived.Test.YtbcnpdpdflkanaaKe
namespace Go.Proofs.Ytbcnpdpdflkanaa
open Go.RowKit

set_option maxRecDepth 100000 in
set_option maxHeartbeats 4000000 in
theorem order_walk (w : World) (a : Option Addr) (cap : Nat) (h : List Lo) (hA : HAt w.heap.size w a h) (hin : ∀ o ∈ h, InO o) (hl : h.length ≤ maxLen) (_hc1 : h.length ≤ cap) (_hc2 : cap ≤ maxLen)
    (key : Bs) (hkl : key.length ≤ maxLen) (oa : Option Addr) (oc : Nat) (os : List Int) (hO : ZAt w.heap.size w oa os) (hol : os.length ≤ maxLen) :
    Calls Try.prog 6 #[.slice a h.length cap, str key, .slice oa os.length oc] w fun e w' => e = .returned (.bool true) ∧ Below w.heap.size w w' := by
  have HF := first_any
  have hok : ∀ o ∈ h, LoOk o := fun o ho => (hin o ho).ok
  have HFW : Hid (∀ w1, Below w.heap.size w w1 → Calls Try.prog 10 #[.slice a h.length cap] w1 (FewR h w1)) := fun w1 hB => few_any w.heap.size w1 a cap h (hA.below hB) hok hl
  have HEX : Hid (∀ w1, Below w.heap.size w w1 → Calls Try.prog 21 #[.slice a h.length cap, str key] w1 fun e w' => ∃ v, e = .returned (.tuple #[v, .bool (explE h key).isSome, .int .i64 (valid h)]) ∧ IOw w1.heap.size w' v ((explE h key).getD []) ∧ Below w1.heap.size w1 w') := fun w1 hB => Explain_any w.heap.size w1 a cap h key hB.size (hA.below hB) hok hl
  have hl' := hl
  have hkl' := hkl
  have hol' := hol
  unfold maxLen at hl' hkl' hol'
  have HN := num_any
  unfold str at *
  go_enter Try.func6, Try.ntmps6
  go_wp2_with (first
    | (go_at_call 9; refine (HF _).mono ?_; rintro e w1 ⟨rfl, hB1⟩)
    | fail)
  refine (HFW.out _ hB1).mono ?_
  rintro e w2 ⟨t, n2, rfl, ht, rfl⟩
  have hB2 : Below w.heap.size w (w1.drewN n2) := ⟨hB1.os, hB1.tape, hB1.output, hB1.size, hB1.block⟩
  generalize w1.drewN n2 = w2 at *
  clear hB1
  cases t with
  | false =>
    go_wp2
    go_ret
    exact ⟨rfl, hB2⟩
  | true =>
    have h6 := ht rfl
    clear ht
    by_cases p1 : 9000 < key.length
    · have p1' : (9000 : Int) < (key.length : Int) := by omega
      go_wp2
      go_ret
      exact ⟨rfl, hB2⟩
    have p1' : ¬ (9000 : Int) < (key.length : Int) := by omega
    by_cases p2 : 100 < os.length
    · have p2' : (100 : Int) < (os.length : Int) := by omega
      go_wp2
      go_ret
      exact ⟨rfl, hB2⟩
    have p2' : ¬ (100 : Int) < (os.length : Int) := by omega
    have HE2 := HEX.out w2 hB2
    by_cases hv : valid h = 0
    · have hee : explE h key = explain h key := by unfold explE; rw [if_pos hv]
      rw [hee, hv] at HE2
      have HLE : Hid (∀ o, kp h key [] false [] o = true → ∃ l, explain h key = some l ∧ aheadZ o (zl l) = false) := fun o ho => keeps_least hv ho
      have HKE : Hid (∀ l, explain h key = some l → kp h key [] false [] (zl l) = true) := fun l he => explain_keeps he
      have HLN : Hid (∀ l, explain h key = some l → l.length ≤ 12) := fun l he => by
        unfold explain at he
        rw [Option.map_eq_some_iff] at he
        obtain ⟨p, hp, rfl⟩ := he
        have hI := expl_isL (opsOf h key)
        rw [hp] at hI
        have h3 := path_short hI.path
        have h4 := left_le (opsOf h key).length (fun _ => false)
        rw [List.length_map]
        have h2 : (opsOf h key).length ≤ 12 := by unfold opsOf; rw [List.length_map]; exact valid_few hv key
        omega
      clear hv hee
      cases hex : explain h key with
      | none =>
        rw [hex] at HE2
        have HF0 : Hid (kp h key [] false [] os = false) := by
          show _ = _
          cases hq : kp h key [] false [] os
          · rfl
          · obtain ⟨l, hl2, -⟩ := HLE.out _ hq
            rw [hex] at hl2; cases hl2
        go_wp2_with fail
        refine HE2.mono ?_
        rintro e w3 ⟨v3, rfl, hI3, hB3⟩
        have hB3' : Below w.heap.size w w3 := hB2.trans (hB3.mono hB2.size)
        have HK := keeps_any w.heap.size w3 a cap h key oa oc os hB3'.size (hA.below hB3') (hO.below hB3') (by omega) (by omega)
        rw [HF0.out] at HK
        unfold str at HK
        simp only [Option.isSome_none]
        go_wp2_with (first
          | (go_at_call 19; refine (HN _ _).mono ?_; rintro e w4 ⟨rfl, hw4⟩; rw [hw4]; clear hw4 w4)
          | (go_at_call 26; refine HK.mono ?_; rintro e w5 ⟨rfl, hB5⟩))
        go_ret
        exact ⟨rfl, hB3'.trans (hB5.mono hB3'.size)⟩
      | some l =>
        rw [hex] at HE2
        simp only [Option.getD_some, Option.isSome_some] at HE2
        have hk1 := HKE.out l hex
        have hll := HLN.out l hex
        go_wp2_with fail
        refine HE2.mono ?_
        rintro e w3 ⟨v3, rfl, hI3, hB3⟩
        have hB3' : Below w.heap.size w w3 := hB2.trans (hB3.mono hB2.size)
        obtain ⟨va, vc, hvs, -, -⟩ := row_shape hI3
        subst hvs
        have hz3 := IOw.zat hI3
        have HK1 := keeps_any w3.heap.size w3 a cap h key va vc (zl l) (Nat.le_refl _) ((hA.below hB3').mono hB3'.size) hz3 (by omega) (by rw [zl_len]; omega)
        rw [hk1, zl_len] at HK1
        have HK2 : Hid (∀ w4, Below w3.heap.size w3 w4 → Calls Try.prog 26 #[.slice a h.length cap, .string ⟨key.toArray⟩, .slice oa os.length oc] w4 fun e w' => e = .returned (.bool (kp h key [] false [] os)) ∧ Below w4.heap.size w4 w') := fun w4 h4 => by
          have hB := hB3'.trans (h4.mono hB3'.size)
          exact keeps_any w.heap.size w4 a cap h key oa oc os hB.size (hA.below hB) (hO.below hB) (by omega) (by omega)
        have HA2 : Hid (∀ w4, Below w3.heap.size w3 w4 → Calls Try.prog 27 #[.slice oa os.length oc, .slice va l.length vc] w4 fun e w' => e = .returned (.bool (aheadZ os (zl l))) ∧ ∃ n, w' = w4.drewN n) := fun w4 h4 => by
          have hB := hB3'.trans (h4.mono hB3'.size)
          have := ahead_any w3.heap.size w4 oa va oc vc os (zl l) (((hO.below hB).mono hB3'.size)) (hz3.below h4) (by omega) (by rw [zl_len]; omega)
          rw [zl_len] at this
          exact this
        have HLS : Hid (kp h key [] false [] os = true → aheadZ os (zl l) = false) := fun hq => by
          obtain ⟨l2, e2, hah⟩ := HLE.out _ hq
          rw [hex] at e2
          cases e2
          exact hah
        unfold str at HK1
        clear hz3 hI3 HE2
        generalize kp h key [] false [] os = kb at *
        generalize aheadZ os (zl l) = ab at *
        clear hk1 HLE HKE HLN HEX
        go_wp2_with (go_at_call 19; refine (HN _ _).mono ?_; rintro e w4 ⟨rfl, hw4⟩; rw [hw4]; clear hw4 w4)
        refine HK1.mono ?_
        rintro e w5 ⟨rfl, hB5⟩
        clear HK1
        go_wp2_with fail
        refine (HK2.out w5 hB5).mono ?_
        rintro e w6 ⟨rfl, hB6⟩
        have hB56 : Below w3.heap.size w3 w6 := hB5.trans (hB6.mono hB5.size)
        have hBf : Below w.heap.size w w6 := hB3'.trans (hB56.mono hB3'.size)
        cases kb with
        | false =>
          go_wp2
          go_ret
          exact ⟨rfl, hBf⟩
        | true =>
          have hab := HLS.out (by rfl)
          subst hab
          go_wp2_with fail
          refine (HA2.out w6 hB56).mono ?_
          rintro e w7 ⟨rfl, n7, rfl⟩
          go_wp2
          go_ret
          exact ⟨rfl, below_drew hBf⟩
    · have hee : explE h key = none := by unfold explE; rw [if_neg hv]
      rw [hee] at HE2
      have hne : (valid h != 0) = true := by simpa using hv
      simp only [Option.getD_none, Option.isSome_none] at HE2
      generalize valid h = vh at *
      clear hv hee
      go_wp2_with fail
      refine HE2.mono ?_
      rintro e w3 ⟨v3, rfl, hI3, hB3⟩
      obtain ⟨va, vc, hvs, -, -⟩ := row_shape hI3
      subst hvs
      clear hI3
      go_wp2_with (go_at_call 19; refine (HN _ _).mono ?_; rintro e w4 ⟨rfl, hw4⟩; rw [hw4]; clear hw4 w4)
      go_ret
      exact ⟨rfl, hB2.trans (hB3.mono hB2.size)⟩
end Go.Proofs.Ytbcnpdpdflkanaa
