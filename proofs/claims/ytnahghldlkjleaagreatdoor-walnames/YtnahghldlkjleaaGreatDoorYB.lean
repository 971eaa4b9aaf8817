/-
  The number of a name: the document's. The name of a segment: the document's. WalNames: the law.
-/
import Derived.Test.YtnahghldlkjleaaGreatDoorWN
import Derived.Sort.Walk0
import Derived.Test.YtnahghldlkjleaaGreatDoorXX
namespace Go.Proofs.YtnahghldlkjleaaGreatDoor
open Go.RowKit
set_option linter.unusedVariables false

theorem piece4 (l : List UInt8) : (({ data := l.toArray } : ByteArray).extract 0 4).toList = l.take 4 := by
  rw [Lib.toList_data]
  simp
theorem valL_app (a : Nat) (l m : List UInt8) : valL a (l ++ m) = valL (valL a l) m := by simp [valL]
set_option maxRecDepth 100000 in
set_option maxHeartbeats 1000000 in
theorem refNumber_any (l : List UInt8) (hm : l.length ≤ 4000) (w : World) : Calls Tryz.prog 28 #[.string ⟨l.toArray⟩] w fun e w' => e = .returned (.int .i64 (numL l : Int)) ∧ w' = w := by
  by_cases h12 : l.length = 12
  · by_cases hp : l.take 4 = [119, 97, 108, 45]
    · obtain ⟨t, hte⟩ : ∃ t, l.drop 4 = t := ⟨_, rfl⟩
      have h8 : t.length = 8 := by rw [← hte, List.length_drop]; omega
      have HI : Hid (numL l = if t.all isDg = true then valL 0 t else 0) := by
        show numL l = _
        rw [numL, hte]
        by_cases hx : t.all isDg = true
        · rw [if_pos ⟨h12, hp, hx⟩, if_pos hx]
        · rw [if_neg (fun h => hx h.2.2), if_neg hx]
      have HT : Hid (t.length = 8) := h8
      have HG : Hid (∀ k : Nat, (h : k < 8) → l[4 + k]'(by omega) = t[k]'(by omega)) := fun k h => by
        subst hte
        simp
      have dn : (!(({ data := l.toArray } : ByteArray).extract 0 4).toList == [119, 97, 108, 45]) = false := by rw [piece4, hp]; rfl
      have d0 : ((l.length : Int) != 12) = false := by simp; omega
      obtain ⟨R, hR⟩ : ∃ R, numL l = R := ⟨_, rfl⟩
      rw [hR] at HI ⊢
      clear hte hp hR
      go_enter Tryz.func28, Tryz.ntmps28
      go_wp2
      go_loopw [3, 4] (fun nv iv wr => ∃ k : Nat, nv = .int .i64 ((valL 0 (t.take k) : Nat) : Int) ∧ iv = .int .i64 ((4 + k : Nat) : Int) ∧ k ≤ 8 ∧ (t.take k).all isDg = true ∧ wr = w) (fun nv iv _ => 12 - (intOf iv).toNat)
      case atStart => exact ⟨0, rfl, rfl, Nat.zero_le _, rfl, rfl⟩
      case round =>
        obtain ⟨k, rfl, rfl, hk, hall, rfl⟩ := hrel
        have HA : Hid ((t.take k).all isDg = true) := hall
        have hvb : valL 0 (t.take k) < 10 ^ 8 := by
          have h1 := valL_lt (t.take k) 0 (by simpa using hall)
          have h2 : (t.take k).length ≤ 8 := by rw [List.length_take]; omega
          have h3 : 10 ^ (t.take k).length ≤ 10 ^ 8 := Nat.pow_le_pow_right (by decide) h2
          omega
        obtain ⟨v, hv⟩ : ∃ v, valL 0 (t.take k) = v := ⟨_, rfl⟩
        rw [hv] at hvb ⊢
        have HV : Hid (valL 0 (t.take k) = v) := hv
        have hvb2 : v < 100000000 := by simpa using hvb
        clear hall hv hvb
        by_cases hlt : k < 8
        · have hi : 4 + k < l.length := by omega
          have HX : Hid (t.take (k + 1) = t.take k ++ [l[4 + k]]) := by
            show t.take (k + 1) = t.take k ++ [l[4 + k]]
            have := HT.out
            rw [HG.out k hlt]
            exact List.take_succ_eq_append_getElem (by omega)
          have HB : Hid (({ data := l.toArray } : ByteArray)[4 + k].toNat = l[4 + k].toNat) := rfl
          have HC : Hid (¬ isDg l[4 + k] = true → R = 0) := fun h => by
            rw [HI.out, if_neg]
            intro h2
            have := HT.out
            rw [List.all_eq_true] at h2
            exact h (by rw [HG.out k hlt]; exact h2 _ (List.getElem_mem _))
          go_wp2
          all_goals have hb := HB.out
          all_goals have hdg : isDg l[4 + k] = true ↔ 48 ≤ l[4 + k].toNat ∧ l[4 + k].toNat ≤ 57 := (by simp [isDg])
          all_goals first
            | (go_ret; refine ⟨?_, rfl⟩; rw [HC.out (by rw [hdg]; omega)]; rfl)
            | (have hval : valL 0 (t.take (k + 1)) = v * 10 + (l[4 + k].toNat - 48) := (by rw [HX.out, valL_app, HV.out]; rfl)
               refine ⟨⟨k + 1, ?_, ?_, by omega, ?_, trivial⟩, by simp [intOf]; omega⟩
               · rw [hval]; congr 1; omega
               · congr 1
               · rw [HX.out, List.all_append, HA.out]; have : isDg l[4 + k] = true := (by rw [hdg]; omega); simp [this])
        · have ek : k = 8 := by omega
          subst ek
          have HR : Hid (R = v) := by
            show R = _
            have ht : t.take 8 = t := List.take_of_length_le (by have := HT.out; omega)
            have h1 := HA.out
            have h2 := HV.out
            rw [ht] at h1 h2
            rw [HI.out, h2, if_pos h1]
          go_wp2
          go_ret
          exact ⟨by rw [HR.out]; rfl, rfl⟩
    · have hI0 : numL l = 0 := by rw [numL, if_neg (fun h => hp h.2.1)]
      rw [hI0]
      have dn : (!(({ data := l.toArray } : ByteArray).extract 0 4).toList == [119, 97, 108, 45]) = true := by rw [piece4]; simpa using hp
      have d0 : ((l.length : Int) != 12) = false := by simp; omega
      clear hI0 hp
      go_enter Tryz.func28, Tryz.ntmps28
      go_wp2
      go_ret
      exact ⟨rfl, rfl⟩
  · have hI0 : numL l = 0 := by rw [numL, if_neg (fun h => h12 h.1)]
    rw [hI0]
    have d1 : ((l.length : Int) != 12) = true := by simp; omega
    have HM : Hid (l.length ≤ 4000) := hm
    clear hm hI0 h12
    go_enter Tryz.func28, Tryz.ntmps28
    go_wp2
    go_ret
    exact ⟨rfl, rfl⟩
end Go.Proofs.YtnahghldlkjleaaGreatDoor
namespace Go.Proofs.YtnahghldlkjleaaGreatDoor
open Go.RowKit
set_option linter.unusedVariables false

theorem enc_dg : ∀ d : Nat, d < 10 → Utf8.encode (48 + (d : Int)) = ⟨#[UInt8.ofNat (48 + d)]⟩ := by
  intro d hd
  match d, hd with
  | 0, _ => rfl
  | 1, _ => rfl
  | 2, _ => rfl
  | 3, _ => rfl
  | 4, _ => rfl
  | 5, _ => rfl
  | 6, _ => rfl
  | 7, _ => rfl
  | 8, _ => rfl
  | 9, _ => rfl
  | d + 10, h => omega
set_option maxRecDepth 100000 in
set_option maxHeartbeats 1000000 in
theorem refName_any (n : Nat) (h2 : n ≤ 99999999) (w : World) : Calls Tryz.prog 29 #[.int .i64 (n : Int)] w fun e w' => e = .returned (.string ⟨(nmL n).toArray⟩) ∧ w' = w := by
  have HB : Hid (n ≤ 99999999) := h2
  have HQ : Hid (∀ k : Nat, ((n / 10 ^ k : Nat) : Int) ≤ 99999999) := fun k => by have := Nat.div_le_self n (10 ^ k); omega
  clear h2
  go_enter Tryz.func29, Tryz.ntmps29
  go_wp2
  go_loopw [0, 3, 4] (fun qv sv iv wr => ∃ k : Nat, qv = .int .i64 ((n / 10 ^ k : Nat) : Int) ∧ sv = .string ⟨(low k n).toArray⟩ ∧ iv = .int .i64 (k : Int) ∧ k ≤ 8 ∧ wr = w) (fun qv sv iv _ => 8 - (intOf iv).toNat)
  case atStart => exact ⟨0, by simp, rfl, rfl, Nat.zero_le _, rfl⟩
  case round =>
    obtain ⟨k, rfl, rfl, rfl, hk, rfl⟩ := hrel
    have HL : Hid ((low k n).length = k) := low_len k n
    have HS : Hid (low (k + 1) n = Lib.dg n k :: low k n) := low_succ k n
    have hq := HQ.out k
    obtain ⟨q, hq'⟩ : ∃ q, n / 10 ^ k = q := ⟨_, rfl⟩
    rw [hq'] at hq ⊢
    have HQ' : Hid (n / 10 ^ k = q) := hq'
    obtain ⟨L, hL⟩ : ∃ L, low k n = L := ⟨_, rfl⟩
    rw [hL] at HL HS ⊢
    have HL' : Hid (low k n = L) := hL
    clear hq' hL
    by_cases hlt : k < 8
    · have d1 : decide ((k : Int) < 8) = true := by simp; omega
      have d2 : IntKind.i64.wrap (Int.tmod (q : Int) 10) = ((q % 10 : Nat) : Int) := by
        have e : Int.tmod (q : Int) 10 = ((q % 10 : Nat) : Int) := rfl
        rw [e, IntKind.wrap_i64]
        have := Nat.mod_lt q (show 0 < 10 by decide)
        omega
      go_wp2
      all_goals have HD3 : Utf8.encode (48 + (q : Int) % 10) = ⟨#[Lib.dg n k]⟩ := (by
        have := enc_dg (q % 10) (Nat.mod_lt _ (by decide))
        rw [Lib.dg, HQ'.out]
        exact this)
      all_goals first
        | (refine ⟨⟨k + 1, ?_, ?_, by go_num, by omega, trivial⟩, by simp [intOf]; omega⟩
           · rw [Nat.pow_succ, ← Nat.div_div_eq_div_mul, HQ'.out]; rfl
           · rw [HS.out, HD3]; rfl)
        | (exfalso
           have hl := HL.out
           have e : (ByteArray.mk #[Lib.dg n k]).size = 1 := rfl
           rename_i hx
           rw [HD3, e] at hx
           omega)
    · have ek : k = 8 := by omega
      subst ek
      have d1 : decide (((8 : Nat) : Int) < 8) = false := by decide
      have HN : Hid (nmL n = [119, 97, 108, 45] ++ L) := by show nmL n = _; rw [nmL, HL'.out]
      go_wp2
      all_goals first
        | (exfalso; have := HL.out; omega)
        | skip
      go_ret
      refine ⟨?_, rfl⟩
      rw [HN.out]
      rfl
end Go.Proofs.YtnahghldlkjleaaGreatDoor
namespace Go.Proofs.YtnahghldlkjleaaGreatDoor
open Go.RowKit
set_option linter.unusedVariables false

set_option maxRecDepth 100000 in
set_option maxHeartbeats 8000000 in
theorem names_walk (n : Int) (hn : -9223372036854775808 ≤ n ∧ n ≤ 9223372036854775807) (l : List UInt8) (hl : l.length ≤ maxLen) (w : World) (hv : ∀ V, Below w.heap.size w V → Vars V) :
    Calls Tryz.prog 5 #[.int .i64 n, .string ⟨l.toArray⟩] w fun e w' => e = .returned (.bool true) ∧ Below w.heap.size w w' := by
  unfold maxLen at hl
  have HV : Hid (∀ V, Below w.heap.size w V → Vars V) := hv
  have HF : Hid (Calls _ _ _ _ _) := first_any w (hv w (Below.refl _ w))
  have hsz : (⟨l.toArray⟩ : ByteArray).size = l.length := by simp [ByteArray.size]
  clear hv
  go_enter Tryz.func5, Tryz.ntmps5
  go_wp2_with fail
  refine HF.out.mono ?_
  rintro r w1 ⟨rfl, hB1⟩
  have HB1 : Hid (Below w.heap.size w w1) := hB1
  clear hB1 HF
  by_cases h1000 : 1000 < l.length
  · have h' : (1000 : Int) < (l.length : Int) := by omega
    go_wp2
    go_ret
    exact ⟨by simp, HB1.out⟩
  · have h' : ¬ (1000 : Int) < (l.length : Int) := by omega
    have HN : Hid (Calls _ _ _ _ _) := name_any n w1 (HV.out _ HB1.out)
    have HI : Hid (∀ V, Below w1.heap.size w1 V → Calls Tryz.prog 27 #[.string ⟨l.toArray⟩] V fun e w' => e = .returned (.tuple #[.int .i64 (numL l : Int), .bool (decide (0 < numL l))]) ∧ Below V.heap.size V w') := fun V hV => (number_any l V).mono fun e w' ⟨he, q, hq⟩ => ⟨he, by rw [hq]; exact below_drewN (Below.refl _ _) q⟩
    have HRI : Hid (∀ V, Calls Tryz.prog 28 #[.string ⟨l.toArray⟩] V fun e w' => e = .returned (.int .i64 (numL l : Int)) ∧ w' = V) := fun V => refNumber_any l (by omega) V
    by_cases hr : 1 ≤ n ∧ n ≤ 99999999
    · obtain ⟨k, rfl⟩ : ∃ k : Nat, n = (k : Int) := ⟨n.toNat, by omega⟩
      rw [if_pos hr, Int.toNat_natCast] at HN
      have hk1 : ¬ (k : Int) < 1 := by omega
      have hk2 : ¬ (99999999 : Int) < (k : Int) := by omega
      have HNI : Hid (∀ V, Below w1.heap.size w1 V → Calls Tryz.prog 27 #[.string ⟨(nmL k).toArray⟩] V fun e w' => e = .returned (.tuple #[.int .i64 (k : Int), .bool true]) ∧ Below V.heap.size V w') := fun V hV => by
        have := number_any (nmL k) V
        rw [num_nm (by omega), show decide (0 < k) = true by simp; omega] at this
        exact this.mono fun e w' ⟨he, q, hq⟩ => ⟨he, by rw [hq]; exact below_drewN (Below.refl _ _) q⟩
      have HRN : Hid (∀ V, Calls Tryz.prog 29 #[.int .i64 (k : Int)] V fun e w' => e = .returned (.string ⟨(nmL k).toArray⟩) ∧ w' = V) := fun V => refName_any k (by omega) V
      obtain ⟨nm, hnm⟩ : ∃ nm, nmL k = nm := ⟨_, rfl⟩
      rw [hnm] at HN HNI HRN
      obtain ⟨ix, hix⟩ : ∃ ix, numL l = ix := ⟨_, rfl⟩
      rw [hix] at HI HRI
      clear hnm hix hr hn
      go_wp2_with fail
      refine HN.out.mono ?_
      rintro r w2 ⟨rfl, hB2⟩
      have HB2 : Hid (Below w1.heap.size w1 w2) := hB2
      have HI2 : Hid (Calls _ _ _ _ _) := HI.out w2 hB2
      clear hB2 HN HI
      go_wp2_with fail
      refine HI2.out.mono ?_
      rintro r w3 ⟨rfl, hB3⟩
      have HB3 : Hid (Below w1.heap.size w1 w3) := HB2.out.trans (hB3.mono HB2.out.size)
      have HI3 : Hid (Calls _ _ _ _ _) := HNI.out w3 HB3.out
      clear hB3 HI2 HNI HB2
      by_cases h0 : 0 < ix
      · rw [show decide (0 < ix) = true by simpa using h0]
        have h0i : (0 : Int) < (ix : Int) := by omega
        clear h0
        go_wp2_with fail
        refine (HRI.out _).mono ?_
        rintro r w4 ⟨rfl, hw4⟩
        subst w4
        go_wp2_with (first
          | (go_at_call 17; refine (num_any _ _).mono ?_; rintro e w9 ⟨rfl, rfl⟩)
          | (go_at_call 27; refine HI3.out.mono ?_; rintro r w5 ⟨rfl, hB5⟩; have HB5 : Hid (Below w.heap.size w w5) := HB1.out.trans ((HB3.out.trans (hB5.mono HB3.out.size)).mono HB1.out.size); clear hB5)
          | (go_at_call 29; refine (HRN.out _).mono ?_; rintro r w6 ⟨rfl, rfl⟩)
          | fail)
        go_ret
        exact ⟨by (try simp) <;> (try omega), HB5.out⟩
      · rw [show decide (0 < ix) = false by simpa using h0]
        have h0i : ix = 0 := by omega
        subst h0i
        clear h0
        go_wp2_with fail
        refine (HRI.out _).mono ?_
        rintro r w4 ⟨rfl, hw4⟩
        subst w4
        go_wp2_with (first
          | (go_at_call 17; refine (num_any _ _).mono ?_; rintro e w9 ⟨rfl, rfl⟩)
          | (go_at_call 27; refine HI3.out.mono ?_; rintro r w5 ⟨rfl, hB5⟩; have HB5 : Hid (Below w.heap.size w w5) := HB1.out.trans ((HB3.out.trans (hB5.mono HB3.out.size)).mono HB1.out.size); clear hB5)
          | (go_at_call 29; refine (HRN.out _).mono ?_; rintro r w6 ⟨rfl, rfl⟩)
          | fail)
        go_ret
        exact ⟨by (try simp) <;> (try omega), HB5.out⟩
    · have HNI : Hid (1 ≤ n → 99999999 < n) := fun h9 => by omega
      rw [if_neg hr] at HN
      obtain ⟨ix, hix⟩ : ∃ ix, numL l = ix := ⟨_, rfl⟩
      rw [hix] at HI HRI
      clear hix hr
      by_cases h1 : n < 1
      · by_cases h0 : 0 < ix
        · go_wp2_with fail
          refine HN.out.mono ?_
          rintro r w2 ⟨rfl, hB2⟩
          have HB2 : Hid (Below w1.heap.size w1 w2) := hB2
          have HI2 : Hid (Calls _ _ _ _ _) := HI.out w2 hB2
          clear hB2 HN HI
          go_wp2_with fail
          refine HI2.out.mono ?_
          rintro r w3 ⟨rfl, hB3⟩
          have HB3 : Hid (Below w.heap.size w w3) := HB1.out.trans ((HB2.out.trans (hB3.mono HB2.out.size)).mono HB1.out.size)
          clear hB3 HI2 HB2
          rw [show decide (0 < ix) = true by simpa using h0]
          have h0i : (0 : Int) < (ix : Int) := by omega
          clear h0
          go_wp2_with fail
          refine (HRI.out _).mono ?_
          rintro r w4 ⟨rfl, hw4⟩
          subst w4
          go_wp2_with (first
            | (go_at_call 17; refine (num_any _ _).mono ?_; rintro e w9 ⟨rfl, rfl⟩)
            | fail)
          go_ret
          exact ⟨by (try simp) <;> (try omega), HB3.out⟩
        · go_wp2_with fail
          refine HN.out.mono ?_
          rintro r w2 ⟨rfl, hB2⟩
          have HB2 : Hid (Below w1.heap.size w1 w2) := hB2
          have HI2 : Hid (Calls _ _ _ _ _) := HI.out w2 hB2
          clear hB2 HN HI
          go_wp2_with fail
          refine HI2.out.mono ?_
          rintro r w3 ⟨rfl, hB3⟩
          have HB3 : Hid (Below w.heap.size w w3) := HB1.out.trans ((HB2.out.trans (hB3.mono HB2.out.size)).mono HB1.out.size)
          clear hB3 HI2 HB2
          rw [show decide (0 < ix) = false by simpa using h0]
          have h0i : ix = 0 := by omega
          subst h0i
          clear h0
          go_wp2_with fail
          refine (HRI.out _).mono ?_
          rintro r w4 ⟨rfl, hw4⟩
          subst w4
          go_wp2_with (first
            | (go_at_call 17; refine (num_any _ _).mono ?_; rintro e w9 ⟨rfl, rfl⟩)
            | fail)
          go_ret
          exact ⟨by (try simp) <;> (try omega), HB3.out⟩
      · have h2 : (99999999 : Int) < n := HNI.out (by omega)
        have h2d : decide (n ≤ 99999999) = false := by simp; omega
        by_cases h0 : 0 < ix
        · go_wp2_with fail
          refine HN.out.mono ?_
          rintro r w2 ⟨rfl, hB2⟩
          have HB2 : Hid (Below w1.heap.size w1 w2) := hB2
          have HI2 : Hid (Calls _ _ _ _ _) := HI.out w2 hB2
          clear hB2 HN HI
          go_wp2_with fail
          refine HI2.out.mono ?_
          rintro r w3 ⟨rfl, hB3⟩
          have HB3 : Hid (Below w.heap.size w w3) := HB1.out.trans ((HB2.out.trans (hB3.mono HB2.out.size)).mono HB1.out.size)
          clear hB3 HI2 HB2
          rw [show decide (0 < ix) = true by simpa using h0]
          have h0i : (0 : Int) < (ix : Int) := by omega
          clear h0
          go_wp2_with fail
          refine (HRI.out _).mono ?_
          rintro r w4 ⟨rfl, hw4⟩
          subst w4
          go_wp2_with (first
            | (go_at_call 17; refine (num_any _ _).mono ?_; rintro e w9 ⟨rfl, rfl⟩)
            | fail)
          go_ret
          exact ⟨by (try simp) <;> (try omega), HB3.out⟩
        · go_wp2_with fail
          refine HN.out.mono ?_
          rintro r w2 ⟨rfl, hB2⟩
          have HB2 : Hid (Below w1.heap.size w1 w2) := hB2
          have HI2 : Hid (Calls _ _ _ _ _) := HI.out w2 hB2
          clear hB2 HN HI
          go_wp2_with fail
          refine HI2.out.mono ?_
          rintro r w3 ⟨rfl, hB3⟩
          have HB3 : Hid (Below w.heap.size w w3) := HB1.out.trans ((HB2.out.trans (hB3.mono HB2.out.size)).mono HB1.out.size)
          clear hB3 HI2 HB2
          rw [show decide (0 < ix) = false by simpa using h0]
          have h0i : ix = 0 := by omega
          subst h0i
          clear h0
          go_wp2_with fail
          refine (HRI.out _).mono ?_
          rintro r w4 ⟨rfl, hw4⟩
          subst w4
          go_wp2_with (first
            | (go_at_call 17; refine (num_any _ _).mono ?_; rintro e w9 ⟨rfl, rfl⟩)
            | fail)
          go_ret
          exact ⟨by (try simp) <;> (try omega), HB3.out⟩
end Go.Proofs.YtnahghldlkjleaaGreatDoor
