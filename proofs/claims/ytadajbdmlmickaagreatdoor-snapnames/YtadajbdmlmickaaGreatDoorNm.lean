/-
  SnapNames: the law.
-/
import Derived.Test.YtadajbdmlmickaaGreatDoorFi
import Derived.Test.YtadajbdmlmickaaGreatDoorRnm
import Derived.Test.YtadajbdmlmickaaGreatDoorRix
namespace Go.Proofs.YtadajbdmlmickaaGreatDoor
open Go.RowKit
set_option linter.unusedVariables false

set_option maxRecDepth 100000 in
set_option maxHeartbeats 8000000 in
theorem names_walk (n : Int) (hn : -9223372036854775808 ≤ n ∧ n ≤ 9223372036854775807) (l : List UInt8) (hl : l.length ≤ maxLen) (w : World) (hv : ∀ V, Below w.heap.size w V → Vars V) :
    Calls Tryz.prog 4 #[.int .i64 n, .string ⟨l.toArray⟩] w fun e w' => e = .returned (.bool true) ∧ Below w.heap.size w w' := by
  unfold maxLen at hl
  have HV : Hid (∀ V, Below w.heap.size w V → Vars V) := hv
  have HF : Hid (Calls _ _ _ _ _) := first_s w hv
  have hsz : (⟨l.toArray⟩ : ByteArray).size = l.length := by simp [ByteArray.size]
  clear hv
  go_enter Tryz.func4, Tryz.ntmps4
  go_wp2_with fail
  refine HF.out.mono ?_
  rintro r w1 ⟨rfl, hB1⟩
  have HB1 : Hid (Below w.heap.size w w1) := hB1
  clear hB1 HF
  by_cases h1000 : 1000 < l.length
  · have h' : (1000 : Int) < (l.length : Int) := by omega
    go_wp2
    go_ret
    exact ⟨by simp, HB1.out⟩
  · have h' : ¬ (1000 : Int) < (l.length : Int) := by omega
    have HN : Hid (Calls _ _ _ _ _) := name_any n hn w1 (HV.out _ HB1.out)
    have HI : Hid (∀ V, Below w1.heap.size w1 V → Calls Tryz.prog 21 #[.string ⟨l.toArray⟩] V fun e w' => e = .returned (.tuple #[.int .i64 (idxL l : Int), .bool (decide (0 < idxL l))]) ∧ Below V.heap.size V w') := fun V hV => index_any l (by omega) V (HV.out _ (HB1.out.trans (hV.mono HB1.out.size)))
    have HRI : Hid (∀ V, Calls Tryz.prog 22 #[.string ⟨l.toArray⟩] V fun e w' => e = .returned (.int .i64 (idxL l : Int)) ∧ w' = V) := fun V => refIndex_any l (by omega) V
    by_cases hr : 1 ≤ n ∧ n ≤ 4611686018427387904
    · obtain ⟨k, rfl⟩ : ∃ k : Nat, n = (k : Int) := ⟨n.toNat, by omega⟩
      rw [if_pos hr, Int.toNat_natCast] at HN
      have hk1 : ¬ (k : Int) < 1 := by omega
      have hk2 : ¬ (4611686018427387904 : Int) < (k : Int) := by omega
      have HNI : Hid (∀ V, Below w1.heap.size w1 V → Calls Tryz.prog 21 #[.string ⟨(nmL k).toArray⟩] V fun e w' => e = .returned (.tuple #[.int .i64 (k : Int), .bool true]) ∧ Below V.heap.size V w') := fun V hV => by
        have := index_any (nmL k) (by rw [nmL_len]; omega) V (HV.out _ (HB1.out.trans (hV.mono HB1.out.size)))
        rw [idx_nm (by omega), show decide (0 < k) = true by simp; omega] at this
        exact this
      have HRN : Hid (∀ V, Calls Tryz.prog 23 #[.int .i64 (k : Int)] V fun e w' => e = .returned (.string ⟨(nmL k).toArray⟩) ∧ w' = V) := fun V => refSnapName_any k (by omega) V
      obtain ⟨nm, hnm⟩ : ∃ nm, nmL k = nm := ⟨_, rfl⟩
      rw [hnm] at HN HNI HRN
      obtain ⟨ix, hix⟩ : ∃ ix, idxL l = ix := ⟨_, rfl⟩
      rw [hix] at HI HRI
      clear hnm hix hr hn
      go_wp2_with fail
      refine HN.out.mono ?_
      rintro r w2 ⟨rfl, hB2⟩
      have HB2 : Hid (Below w1.heap.size w1 w2) := hB2
      have HI2 : Hid (Calls _ _ _ _ _) := HI.out w2 hB2
      clear hB2 HN HI
      go_wp2_with fail
      refine HI2.out.mono ?_
      rintro r w3 ⟨rfl, hB3⟩
      have HB3 : Hid (Below w1.heap.size w1 w3) := HB2.out.trans (hB3.mono HB2.out.size)
      have HI3 : Hid (Calls _ _ _ _ _) := HNI.out w3 HB3.out
      clear hB3 HI2 HNI HB2
      by_cases h0 : 0 < ix
      · rw [show decide (0 < ix) = true by simpa using h0]
        have h0i : (0 : Int) < (ix : Int) := by omega
        clear h0
        go_wp2_with fail
        refine (HRI.out _).mono ?_
        rintro r w4 ⟨rfl, hw4⟩
        subst w4
        go_wp2_with (first
          | (go_at_call 18; refine (num_any _ _).mono ?_; rintro e w9 ⟨rfl, rfl⟩)
          | (go_at_call 21; refine HI3.out.mono ?_; rintro r w5 ⟨rfl, hB5⟩; have HB5 : Hid (Below w.heap.size w w5) := HB1.out.trans ((HB3.out.trans (hB5.mono HB3.out.size)).mono HB1.out.size); clear hB5)
          | (go_at_call 23; refine (HRN.out _).mono ?_; rintro r w6 ⟨rfl, rfl⟩)
          | fail)
        go_ret
        exact ⟨by simp, HB5.out⟩
      · rw [show decide (0 < ix) = false by simpa using h0]
        have h0i : ix = 0 := by omega
        subst h0i
        clear h0
        go_wp2_with fail
        refine (HRI.out _).mono ?_
        rintro r w4 ⟨rfl, hw4⟩
        subst w4
        go_wp2_with (first
          | (go_at_call 18; refine (num_any _ _).mono ?_; rintro e w9 ⟨rfl, rfl⟩)
          | (go_at_call 21; refine HI3.out.mono ?_; rintro r w5 ⟨rfl, hB5⟩; have HB5 : Hid (Below w.heap.size w w5) := HB1.out.trans ((HB3.out.trans (hB5.mono HB3.out.size)).mono HB1.out.size); clear hB5)
          | (go_at_call 23; refine (HRN.out _).mono ?_; rintro r w6 ⟨rfl, rfl⟩)
          | fail)
        go_ret
        exact ⟨by simp, HB5.out⟩
    · have HNI : Hid (1 ≤ n → 4611686018427387904 < n) := fun h9 => by omega
      rw [if_neg hr] at HN
      obtain ⟨ix, hix⟩ : ∃ ix, idxL l = ix := ⟨_, rfl⟩
      rw [hix] at HI HRI
      clear hix hr
      by_cases h1 : n < 1
      · by_cases h0 : 0 < ix
        · go_wp2_with fail
          refine HN.out.mono ?_
          rintro r w2 ⟨rfl, hB2⟩
          have HB2 : Hid (Below w1.heap.size w1 w2) := hB2
          have HI2 : Hid (Calls _ _ _ _ _) := HI.out w2 hB2
          clear hB2 HN HI
          go_wp2_with fail
          refine HI2.out.mono ?_
          rintro r w3 ⟨rfl, hB3⟩
          have HB3 : Hid (Below w.heap.size w w3) := HB1.out.trans ((HB2.out.trans (hB3.mono HB2.out.size)).mono HB1.out.size)
          clear hB3 HI2 HB2
          rw [show decide (0 < ix) = true by simpa using h0]
          have h0i : (0 : Int) < (ix : Int) := by omega
          clear h0
          go_wp2_with fail
          refine (HRI.out _).mono ?_
          rintro r w4 ⟨rfl, hw4⟩
          subst w4
          go_wp2_with (first
            | (go_at_call 18; refine (num_any _ _).mono ?_; rintro e w9 ⟨rfl, rfl⟩)
            | fail)
          go_ret
          exact ⟨by simp, HB3.out⟩
        · go_wp2_with fail
          refine HN.out.mono ?_
          rintro r w2 ⟨rfl, hB2⟩
          have HB2 : Hid (Below w1.heap.size w1 w2) := hB2
          have HI2 : Hid (Calls _ _ _ _ _) := HI.out w2 hB2
          clear hB2 HN HI
          go_wp2_with fail
          refine HI2.out.mono ?_
          rintro r w3 ⟨rfl, hB3⟩
          have HB3 : Hid (Below w.heap.size w w3) := HB1.out.trans ((HB2.out.trans (hB3.mono HB2.out.size)).mono HB1.out.size)
          clear hB3 HI2 HB2
          rw [show decide (0 < ix) = false by simpa using h0]
          have h0i : ix = 0 := by omega
          subst h0i
          clear h0
          go_wp2_with fail
          refine (HRI.out _).mono ?_
          rintro r w4 ⟨rfl, hw4⟩
          subst w4
          go_wp2_with (first
            | (go_at_call 18; refine (num_any _ _).mono ?_; rintro e w9 ⟨rfl, rfl⟩)
            | fail)
          go_ret
          exact ⟨by simp, HB3.out⟩
      · have h2 : (4611686018427387904 : Int) < n := HNI.out (by omega)
        by_cases h0 : 0 < ix
        · go_wp2_with fail
          refine HN.out.mono ?_
          rintro r w2 ⟨rfl, hB2⟩
          have HB2 : Hid (Below w1.heap.size w1 w2) := hB2
          have HI2 : Hid (Calls _ _ _ _ _) := HI.out w2 hB2
          clear hB2 HN HI
          go_wp2_with fail
          refine HI2.out.mono ?_
          rintro r w3 ⟨rfl, hB3⟩
          have HB3 : Hid (Below w.heap.size w w3) := HB1.out.trans ((HB2.out.trans (hB3.mono HB2.out.size)).mono HB1.out.size)
          clear hB3 HI2 HB2
          rw [show decide (0 < ix) = true by simpa using h0]
          have h0i : (0 : Int) < (ix : Int) := by omega
          clear h0
          go_wp2_with fail
          refine (HRI.out _).mono ?_
          rintro r w4 ⟨rfl, hw4⟩
          subst w4
          go_wp2_with (first
            | (go_at_call 18; refine (num_any _ _).mono ?_; rintro e w9 ⟨rfl, rfl⟩)
            | fail)
          go_ret
          exact ⟨by simp, HB3.out⟩
        · go_wp2_with fail
          refine HN.out.mono ?_
          rintro r w2 ⟨rfl, hB2⟩
          have HB2 : Hid (Below w1.heap.size w1 w2) := hB2
          have HI2 : Hid (Calls _ _ _ _ _) := HI.out w2 hB2
          clear hB2 HN HI
          go_wp2_with fail
          refine HI2.out.mono ?_
          rintro r w3 ⟨rfl, hB3⟩
          have HB3 : Hid (Below w.heap.size w w3) := HB1.out.trans ((HB2.out.trans (hB3.mono HB2.out.size)).mono HB1.out.size)
          clear hB3 HI2 HB2
          rw [show decide (0 < ix) = false by simpa using h0]
          have h0i : ix = 0 := by omega
          subst h0i
          clear h0
          go_wp2_with fail
          refine (HRI.out _).mono ?_
          rintro r w4 ⟨rfl, hw4⟩
          subst w4
          go_wp2_with (first
            | (go_at_call 18; refine (num_any _ _).mono ?_; rintro e w9 ⟨rfl, rfl⟩)
            | fail)
          go_ret
          exact ⟨by simp, HB3.out⟩
end Go.Proofs.YtadajbdmlmickaaGreatDoor
