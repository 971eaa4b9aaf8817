/-
  LinExplains.
-/
import Derived.Test.YtbcnpdpdflkanaaDx
namespace Go.Proofs.Ytbcnpdpdflkanaa
open Go.RowKit

set_option maxRecDepth 100000 in
set_option maxHeartbeats 4000000 in
theorem explains_walk (w : World) (a : Option Addr) (cap : Nat) (h : List Lo) (hA : HAt w.heap.size w a h) (hin : ∀ o ∈ h, InO o) (hl : h.length ≤ maxLen) (_hc1 : h.length ≤ cap) (_hc2 : cap ≤ maxLen)
    (key : Bs) (hkl : key.length ≤ maxLen) :
    Calls Try.prog 4 #[.slice a h.length cap, str key] w fun e w' => e = .returned (.bool true) ∧ Below w.heap.size w w' := by
  have HF := first_any
  have hok : ∀ o ∈ h, LoOk o := fun o ho => (hin o ho).ok
  have HFW : Hid (∀ w1, Below w.heap.size w w1 → Calls Try.prog 10 #[.slice a h.length cap] w1 (FewR h w1)) := fun w1 hB => few_any w.heap.size w1 a cap h (hA.below hB) hok hl
  have HEX : Hid (∀ w1, Below w.heap.size w w1 → Calls Try.prog 21 #[.slice a h.length cap, str key] w1 fun e w' => ∃ v, e = .returned (.tuple #[v, .bool (explE h key).isSome, .int .i64 (valid h)]) ∧ IOw w1.heap.size w' v ((explE h key).getD []) ∧ Below w1.heap.size w1 w') := fun w1 hB => Explain_any w.heap.size w1 a cap h key hB.size (hA.below hB) hok hl
  have HVA : Hid (∀ w1, Below w.heap.size w w1 → Calls Try.prog 18 #[.slice a h.length cap] w1 fun e w' => e = .returned (.int .i64 (valid h)) ∧ Below w1.heap.size w1 w') := fun w1 hB => refValid_any w.heap.size w1 a cap h hB.size (hA.below hB) hl
  have HRX : Hid (valid h = 0 → ∀ w1, Below w.heap.size w w1 → Calls Try.prog 22 #[.slice a h.length cap, str key] w1 fun e w' => ∃ v, e = .returned (.tuple #[v, .bool (explain h key).isSome]) ∧ IOw w1.heap.size w' v ((explain h key).getD []) ∧ Below w1.heap.size w1 w') := fun hv w1 hB => refExplain_any w.heap.size w1 a cap h key hB.size (hA.below hB) hok (by have := valid_len hv; omega) (valid_few hv key)
  have hl' := hl
  have hkl' := hkl
  unfold maxLen at hl' hkl'
  have HN := num_any
  unfold str at *
  go_enter Try.func4, Try.ntmps4
  go_wp2_with (first
    | (go_at_call 9; refine (HF _).mono ?_; rintro e w1 ⟨rfl, hB1⟩)
    | fail)
  refine (HFW.out _ hB1).mono ?_
  rintro e w2 ⟨t, n2, rfl, ht, rfl⟩
  have hB2 : Below w.heap.size w (w1.drewN n2) := ⟨hB1.os, hB1.tape, hB1.output, hB1.size, hB1.block⟩
  generalize w1.drewN n2 = w2 at *
  clear hB1
  cases t with
  | false =>
    go_wp2
    go_ret
    exact ⟨rfl, hB2⟩
  | true =>
    have h6 := ht rfl
    clear ht
    by_cases p1 : 9000 < key.length
    · have p1' : (9000 : Int) < (key.length : Int) := by omega
      go_wp2
      go_ret
      exact ⟨rfl, hB2⟩
    have p1' : ¬ (9000 : Int) < (key.length : Int) := by omega
    have HE2 := HEX.out w2 hB2
    by_cases hv : valid h = 0
    · have hee : explE h key = explain h key := by unfold explE; rw [if_pos hv]
      rw [hee, hv] at HE2
      have HR2 := HRX.out hv
      rw [hv] at HVA
      clear hv hee HRX
      generalize (explain h key).isSome = eb at *
      generalize (explain h key).getD [] = el at *
      have HR3 : Hid (∀ w1, Below w.heap.size w w1 → _) := HR2
      clear HR2
      go_wp2_with fail
      refine HE2.mono ?_
      rintro e w3 ⟨v, rfl, hI3, hB3⟩
      obtain ⟨va, vc, hvs, -, -⟩ := row_shape hI3
      subst hvs
      have hB4 : Below w.heap.size w w3 := hB2.trans (hB3.mono hB2.size)
      have HI3 : Hid (IOw w2.heap.size w3 _ el) := hI3
      clear hI3 hB3 HE2 hB2
      go_wp2_with fail
      refine (HVA.out w3 hB4).mono ?_
      rintro e w4 ⟨rfl, hB5⟩
      have hB6 : Below w.heap.size w w4 := hB4.trans (hB5.mono hB4.size)
      have HI4 : Hid (IOw w2.heap.size w4 _ el) := row_below HI3.out hB5
      clear hB4 hB5 HI3
      go_wp2_with fail
      refine (HR3.out w4 hB6).mono ?_
      rintro e w5 ⟨u, rfl, hI5, hB7⟩
      obtain ⟨ua, uc, hus, -, -⟩ := row_shape hI5
      subst hus
      have hB8 : Below w.heap.size w w5 := hB6.trans (hB7.mono hB6.size)
      have HSM := sameInts_any _ _ _ _ w5 (IOw.rd (row_below HI4.out hB7)) (IOw.rd hI5)
      rw [decide_eq_true rfl] at HSM
      have HB8 : Hid (Below w.heap.size w w5) := hB8
      clear hI5 hB7 HI4 hB6 hB8
      go_wp2_with fail
      refine HSM.mono ?_
      rintro e w6 ⟨rfl, n6, rfl⟩
      cases eb
      all_goals (
        go_wp2_with (go_at_call 19; refine (HN _ _).mono ?_; rintro e w9 ⟨rfl, rfl⟩)
        go_ret
        exact ⟨rfl, bdrew HB8.out⟩)
    · have hee : explE h key = none := by unfold explE; rw [if_neg hv]
      have hne : (valid h != 0) = true := by simpa using hv
      rw [hee] at HE2
      clear hee hv HRX
      generalize valid h = vh at *
      go_wp2_with fail
      refine HE2.mono ?_
      rintro e w3 ⟨v, rfl, hI3, hB3⟩
      obtain ⟨va, vc, hvs, -, -⟩ := row_shape hI3
      subst hvs
      have hB4 : Below w.heap.size w w3 := hB2.trans (hB3.mono hB2.size)
      clear hI3 hB3 HE2 hB2
      go_wp2_with fail
      refine (HVA.out w3 hB4).mono ?_
      rintro e w4 ⟨rfl, hB5⟩
      have HB6 : Hid (Below w.heap.size w w4) := hB4.trans (hB5.mono hB4.size)
      clear hB4 hB5
      go_wp2_with (go_at_call 19; refine (HN _ _).mono ?_; rintro e w9 ⟨rfl, rfl⟩)
      go_ret
      exact ⟨rfl, HB6.out⟩
end Go.Proofs.Ytbcnpdpdflkanaa
