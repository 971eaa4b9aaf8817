/-
  The document's number of a word.
-/
import Derived.Test.YtbckogojnjmjcaaGreatDoorDn
import Derived.Test.YtbckogojnjmjcaaGreatDoorA8
import Derived.Test.YtbckogojnjmjcaaGreatDoorW3
import Derived.Deep.DeepCutAuto
namespace Go.Proofs.YtbckogojnjmjcaaGreatDoor
open Go.RowKit Go.Shelf

theorem sgn_cases (s : Bs) : ∃ neg t, s = sgn neg t ∧ (neg = false → t.head? ≠ some 45) := by
  cases s with
  | nil => exact ⟨false, [], rfl, by simp⟩
  | cons c q =>
    by_cases h : c = 45
    · subst h; exact ⟨true, q, rfl, by simp⟩
    · exact ⟨false, c :: q, rfl, by simp [h]⟩
set_option maxRecDepth 100000 in
set_option maxHeartbeats 4000000 in
theorem rnumber_any (s : Bs) (hl : s.length ≤ 1000000) (w : World) : Calls Tryz.prog 56 #[.string ⟨s.toArray⟩] w fun e w' => NuR s e ∧ w' = w := by
  obtain ⟨neg, t, hst, h45⟩ := sgn_cases s
  have HST : Hid (s = sgn neg t) := hst
  have H45 : Hid (neg = false → t.head? ≠ some 45) := h45
  have hz : (⟨s.toArray⟩ : ByteArray).size = s.length := by show s.toArray.size = _; simp
  have hzt : (⟨t.toArray⟩ : ByteArray).size = t.length := by show t.toArray.size = _; simp
  have HNO : Hid ((∀ n, ¬ IsNum (sgn neg t) n) → NuR s (.returned (.tuple #[.int .i64 0, .bool false]))) := fun h => .inr ⟨by rw [HST.out]; exact h, rfl⟩
  have htl : t.length ≤ s.length := by rw [hst]; cases neg <;> simp [sgn]
  clear h45 hst
  go_enter Tryz.func56, Tryz.ntmps56
  go_upto_region 2 with fail
  go_cut [15] (fun v wx => v = .bool neg ∧ wx = w)
  case first =>
    cases neg with
    | true =>
      obtain ⟨hk0, hx0⟩ := idx_s (s := s) (k := 0) (c := 45) (by rw [HST.out]; rfl)
      have h1 : 1 ≤ s.length := by omega
      go_wp2
      go_meet
      exact ⟨rfl, rfl⟩
    | false =>
      have hs : s = t := HST.out
      subst hs
      cases s with
      | nil =>
        go_wp2
        go_meet
        exact ⟨rfl, rfl⟩
      | cons c q =>
        obtain ⟨hk0, hx0⟩ := idx_s (s := c :: q) (k := 0) (c := c) rfl
        have hn : ((c.toNat : Int) == 45) = false := by
          rw [beq_eq_false_iff_ne]
          intro e
          exact H45.out rfl (by rw [show c = 45 from UInt8.toNat_inj.1 (by show _ = 45; omega)]; rfl)
        go_wp2
        go_meet
        exact ⟨rfl, rfl⟩
  case rest =>
    obtain ⟨hu, hw⟩ := hcut
    subst hu
    have HW1 : Hid (wc = w) := hw
    clear hw
    go_upto_if 15 with fail
    go_cut [4] (fun v wx => v = .string ⟨t.toArray⟩ ∧ wx = w)
    case first =>
      cases neg with
      | true =>
        have h1 : 1 ≤ s.length := by rw [HST.out]; simp [sgn]
        have hext : (⟨s.toArray⟩ : ByteArray).extract 1 s.length = ⟨t.toArray⟩ := by rw [ext_eq, List.take_length, HST.out]; rfl
        go_wp2
        go_meet
        exact ⟨rfl, HW1.out⟩
      | false =>
        go_wp2
        go_meet
        exact ⟨by rw [show s = t from HST.out], HW1.out⟩
    case rest =>
      obtain ⟨hu, hw⟩ := hcut
      subst hu
      clear HW1
      have HW2 : Hid (wc = w) := hw
      clear hw
      obtain ⟨b, hb⟩ : ∃ b : Bool, Hid (b = (t.isEmpty || decide (19 < t.length) || (t.head? == some 48 && !(s == [48])))) := ⟨_, rfl⟩
      go_upto_region 4 with fail
      go_cut [33] (fun v wx => v = .bool b ∧ wx = w)
      case first =>
        have HBE : Hid (b = (t.isEmpty || decide (19 < t.length) || (t.head? == some 48 && !(s == [48])))) := hb
        clear hb
        by_cases hte : t = []
        · subst hte
          go_wp2
          go_meet
          exact ⟨by rw [HBE.out]; rfl, HW2.out⟩
        by_cases ht19 : 19 < t.length
        · have hte' : t.isEmpty = false := by cases t with | nil => exact absurd rfl hte | cons c q => rfl
          clear hte
          go_wp2
          go_meet
          exact ⟨by rw [HBE.out]; simp [ht19], HW2.out⟩
        obtain ⟨c0, q0, hc0⟩ : ∃ c q, t = c :: q := by cases t with | nil => exact absurd rfl hte | cons c q => exact ⟨c, q, rfl⟩
        obtain ⟨hk0, hx0⟩ := idx_s (s := t) (k := 0) (c := c0) (by rw [hc0]; rfl)
        have hte' : t.isEmpty = false := by rw [hc0]; rfl
        have htn : 0 < t.length := by rw [hc0]; simp
        have HC0 : Hid (t.head? = some c0) := by rw [hc0]; rfl
        clear hc0 hte
        have HT19 : Hid (decide (19 < t.length) = false) := by show _ = _; simpa using ht19
        have HTI : Hid (decide ((19 : Int) < (t.length : Int)) = false) := by show _ = _; rw [decide_eq_false_iff_not]; omega
        by_cases h0 : c0 = 48
        · subst h0
          go_wp2
          go_meet
          refine ⟨?_, HW2.out⟩
          rw [HBE.out, hte', HT19.out, HC0.out]
          rw [HTI.out]
          rfl
        have hcb : ((c0.toNat : Int) == 48) = false := by rw [beq_eq_false_iff_ne]; intro e; exact h0 (UInt8.toNat_inj.1 (by show _ = 48; omega))
        go_wp2
        go_meet
        refine ⟨?_, HW2.out⟩
        rw [HBE.out, hte', HT19.out, HC0.out]
        have : (some c0 == some (48 : UInt8)) = false := by rw [beq_eq_false_iff_ne]; intro e; cases e; exact h0 rfl
        rw [this, HTI.out]
        rfl
      case rest =>
        obtain ⟨hu, hw⟩ := hcut
        subst hu
        clear HW2
        have HW3 : Hid (wc = w) := hw
        clear hw
        cases b with
        | true =>
          have HR : Hid (NuR s _) := HNO.out (by
            have h := hb.symm
            rw [Bool.or_eq_true, Bool.or_eq_true, Bool.and_eq_true] at h
            rcases h with (h | h) | ⟨h1, h2⟩
            · have : t = [] := by simpa using h
              subst this
              exact num_nil
            · exact num_long H45.out (by simpa using h)
            · exact num_zero H45.out (by simpa using h1) (by rw [← HST.out]; simpa using h2))
          clear hb
          go_wp2
          go_ret2
          exact ⟨HR.out, HW3.out⟩
        | false =>
        have HTE : Hid (t ≠ []) := fun h => by subst h; cases hb
        have HTL : Hid (t.length ≤ 19) := by
          have h := hb.symm
          rw [Bool.or_eq_false_iff, Bool.or_eq_false_iff] at h
          have := h.1.2
          show _ ≤ _
          simpa using this
        have HH0 : Hid (t.head? = some 48 → sgn neg t = [48]) := fun h0 => by
          have h := hb.symm
          rw [Bool.or_eq_false_iff] at h
          have h2 := h.2
          rw [h0] at h2
          rw [← HST.out]
          simpa using h2
        clear hb
        go_wp2
        go_loopw [5, 6] (fun vn vi wr => ∃ (k u : Nat), vi = .int .i64 k ∧ k ≤ t.length ∧ vn = .int .i64 u ∧ u ≤ 4611686018427387909 ∧ Hid (dv 0 t = dv u (t.drop k)) ∧ Hid (wr = w)) (fun _ i _ => t.length - (intOf i).toNat)
        case atStart => exact ⟨0, 0, rfl, by omega, rfl, by omega, rfl, HW3.out⟩
        case round =>
          obtain ⟨k, u, rfl, hk, rfl, hu, HDV, HWR⟩ := hrel
          have htl19 := HTL.out
          by_cases hlt : k < t.length
          · obtain ⟨c, hck, hdk⟩ := drop_c hlt
            obtain ⟨hkz, hxk⟩ := idx_s hck
            have HDK : Hid (t.drop k = c :: t.drop (k + 1)) := hdk
            have hcl := c.toNat_lt
            clear hck hdk
            have HBAD : Hid (c.toNat < 48 ∨ 57 < c.toNat ∨ 461168601842738790 < u → NuR s (.returned (.tuple #[.int .i64 0, .bool false]))) := fun h => HNO.out (num_bad H45.out (fun v hv => by rw [HDV.out, HDK.out] at hv; simp only [dv] at hv; rw [if_pos h] at hv; cases hv))
            by_cases h1 : c.toNat < 48
            · have HR : Hid (NuR s _) := HBAD.out (.inl h1)
              go_wp2
              go_ret2
              exact ⟨HR.out, HWR.out⟩
            by_cases h2 : 57 < c.toNat
            · have HR : Hid (NuR s _) := HBAD.out (.inr (.inl h2))
              go_wp2
              go_ret2
              exact ⟨HR.out, HWR.out⟩
            by_cases h3 : 461168601842738790 < u
            · have HR : Hid (NuR s _) := HBAD.out (.inr (.inr h3))
              go_wp2
              go_ret2
              exact ⟨HR.out, HWR.out⟩
            have HDN : Hid (dv 0 t = dv (10 * u + (c.toNat - 48)) (t.drop (k + 1))) := by
              show _ = _
              rw [HDV.out, HDK.out]
              simp only [dv]
              rw [if_neg (by omega)]
            have hw1 : IntKind.i64.wrap (10 * (u : Int)) = 10 * (u : Int) := by rw [IntKind.wrap_i64]; omega
            go_wp2
            exact ⟨⟨k + 1, 10 * u + (c.toNat - 48), by simp, by omega, by congr 1; omega, by omega, HDN.out, HWR.out⟩, by simp [intOf]; omega⟩
          · have hke : k = t.length := by omega
            have HD : Hid (dv 0 t = some u) := by
              show _ = _
              rw [HDV.out, hke, List.drop_length]
              rfl
            by_cases hgt : 4611686018427387904 < u
            · have HR : Hid (NuR s _) := HNO.out (num_bad H45.out (fun v hv => by rw [HD.out] at hv; cases hv; exact hgt))
              go_wp2
              go_ret2
              exact ⟨HR.out, HWR.out⟩
            have HG : Hid (IsNum s (sg neg u)) := by show IsNum _ _; rw [HST.out]; exact num_good HTE.out HH0.out HD.out (by omega)
            clear hke HD HDV HNO
            cases neg with
            | true =>
              have hne : (t == s) = false := by
                rw [beq_eq_false_iff_ne]
                intro e
                have := HST.out
                rw [← e] at this
                have := congrArg List.length this
                simp [sgn] at this
              have hng : IntKind.i64.wrap (-(u : Int)) = -(u : Int) := by rw [IntKind.wrap_i64]; omega
              go_wp2
              go_ret2
              exact ⟨.inl ⟨_, HG.out, rfl⟩, HWR.out⟩
            | false =>
              have hs : s = t := HST.out
              subst hs
              go_wp2
              go_ret2
              exact ⟨.inl ⟨_, HG.out, rfl⟩, HWR.out⟩
end Go.Proofs.YtbckogojnjmjcaaGreatDoor
