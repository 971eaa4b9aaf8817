/-
  The document's bytes of words.
-/
import Derived.Test.YtbckogojnjmjcaaGreatDoorPc
namespace Go.Proofs.YtbckogojnjmjcaaGreatDoor
open Go.RowKit Go.Shelf

theorem rbare_any (c : UInt8) (w : World) : Calls Tryz.prog 36 #[.int .u8 (c.toNat : Int)] w fun e w' => e = .returned (.bool (bareB c)) ∧ w' = w := by
  have hc := c.toNat_lt
  unfold bareB
  generalize c.toNat = n at *
  by_cases h1 : 32 < n
  · by_cases h2 : n ≤ 126
    · by_cases h3 : n = 34
      · subst h3
        go_enter Tryz.func36, Tryz.ntmps36
        go_wp2
        go_ret
        exact ⟨rfl, rfl⟩
      · have h3b : ((n : Int) != 34) = true := by rw [bne_iff_ne]; omega
        have HD : Hid ((decide (32 < n) && decide (n ≤ 126) && decide (n ≠ 34)) = true) := by show _ = _; simp [h1, h2, h3]
        rw [HD.out]
        clear h3
        go_enter Tryz.func36, Tryz.ntmps36
        go_wp2
        go_ret
        exact ⟨rfl, rfl⟩
    · have HD : Hid ((decide (32 < n) && decide (n ≤ 126) && decide (n ≠ 34)) = false) := by show _ = _; simp [h2]
      rw [HD.out]
      go_enter Tryz.func36, Tryz.ntmps36
      go_wp2
      go_ret
      exact ⟨rfl, rfl⟩
  · have HD : Hid ((decide (32 < n) && decide (n ≤ 126) && decide (n ≠ 34)) = false) := by show _ = _; simp [h1]
    rw [HD.out]
    go_enter Tryz.func36, Tryz.ntmps36
    go_wp2
    go_ret
    exact ⟨rfl, rfl⟩
/-- Does a byte stand for itself? -/
def plainB (c : UInt8) : Bool := decide (32 ≤ c.toNat) && decide (c.toNat ≤ 126) && decide (c.toNat ≠ 34) && decide (c.toNat ≠ 92)
theorem rplain_any (c : UInt8) (w : World) : Calls Tryz.prog 42 #[.int .u8 (c.toNat : Int)] w fun e w' => e = .returned (.bool (plainB c)) ∧ w' = w := by
  have hc := c.toNat_lt
  unfold plainB
  generalize c.toNat = n at *
  by_cases h1 : 32 ≤ n
  · by_cases h2 : n ≤ 126
    · by_cases h3 : n = 34
      · subst h3
        go_enter Tryz.func42, Tryz.ntmps42
        go_wp2
        go_ret
        exact ⟨rfl, rfl⟩
      · have h3b : ((n : Int) != 34) = true := by rw [bne_iff_ne]; omega
        have HD : Hid ((decide (32 ≤ n) && decide (n ≤ 126) && decide (n ≠ 34) && decide (n ≠ 92)) = ((n : Int) != 92)) := by
          show _ = _
          rw [Bool.eq_iff_iff]
          simp [h1, h2, h3]
          omega
        rw [HD.out]
        clear h3
        go_enter Tryz.func42, Tryz.ntmps42
        go_wp2
        go_ret
        exact ⟨rfl, rfl⟩
    · have HD : Hid ((decide (32 ≤ n) && decide (n ≤ 126) && decide (n ≠ 34) && decide (n ≠ 92)) = false) := by show _ = _; simp [h2]
      rw [HD.out]
      go_enter Tryz.func42, Tryz.ntmps42
      go_wp2
      go_ret
      exact ⟨rfl, rfl⟩
  · have HD : Hid ((decide (32 ≤ n) && decide (n ≤ 126) && decide (n ≠ 34) && decide (n ≠ 92)) = false) := by show _ = _; simp [h1]
    rw [HD.out]
    go_enter Tryz.func42, Tryz.ntmps42
    go_wp2
    go_ret
    exact ⟨rfl, rfl⟩
theorem rdigit_any (n : Nat) (hn : n < 16) (w : World) : Calls Tryz.prog 43 #[.int .i64 (n : Int)] w fun e w' => e = .returned (.int .u8 ((hexD n).toNat : Int)) ∧ w' = w := by
  have : n = 0 ∨ n = 1 ∨ n = 2 ∨ n = 3 ∨ n = 4 ∨ n = 5 ∨ n = 6 ∨ n = 7 ∨ n = 8 ∨ n = 9 ∨ n = 10 ∨ n = 11 ∨ n = 12 ∨ n = 13 ∨ n = 14 ∨ n = 15 := by omega
  rcases this with rfl | rfl | rfl | rfl | rfl | rfl | rfl | rfl | rfl | rfl | rfl | rfl | rfl | rfl | rfl | rfl
  all_goals (
    go_enter Tryz.func43, Tryz.ntmps43
    go_wp2
    go_ret
    exact ⟨rfl, rfl⟩)
/-- The value of a digit. -/
def valI (c : UInt8) : Nat → Int
  | 0 => -1
  | n + 1 => if hexD (15 - n) = c then ((15 - n : Nat) : Int) else valI c n
def valD (c : UInt8) : Int := valI c 16
theorem valI_range (c : UInt8) (n : Nat) (hn : n ≤ 16) : valI c n = -1 ∨ (0 ≤ valI c n ∧ valI c n < 16) := by
  induction n with
  | zero => exact .inl rfl
  | succ n ih =>
    unfold valI
    split
    · exact .inr (by omega)
    · exact ih (by omega)
theorem valD_hex : ∀ i : Fin 16, valD (hexD i.val) = i.val := by decide
theorem valI_some {c : UInt8} {n : Nat} (h : valI c n ≠ -1) : hexD (valI c n).toNat = c := by
  induction n with
  | zero => exact absurd rfl h
  | succ n ih =>
    unfold valI at h ⊢
    split
    · rename_i hc
      rw [Int.toNat_natCast]
      exact hc
    · rename_i hc
      rw [if_neg hc] at h
      exact ih h
set_option maxRecDepth 100000 in
theorem rvalue_any (c : UInt8) (w : World) : Calls Tryz.prog 69 #[.int .u8 (c.toNat : Int)] w fun e w' => e = .returned (.int .i64 (valD c)) ∧ w' = w := by
  have HDG := rdigit_any
  go_enter Tryz.func69, Tryz.ntmps69
  go_wp2
  go_loopw [3] (fun i wr => ∃ k : Nat, i = .int .i64 k ∧ k ≤ 16 ∧ Hid (valD c = valI c (16 - k)) ∧ wr = w) (fun i _ => 16 - (intOf i).toNat)
  case atStart => exact ⟨0, rfl, by omega, by show _ = _; rfl, rfl⟩
  case round =>
    obtain ⟨k, rfl, hk, HVI, hw⟩ := hrel
    subst hw
    by_cases hlt : k < 16
    · have hst : valI c (16 - k) = if hexD k = c then (k : Int) else valI c (16 - (k + 1)) := by
        have e1 : 16 - k = (15 - k) + 1 := by omega
        have e2 : 15 - (15 - k) = k := by omega
        have e3 : 16 - (k + 1) = 15 - k := by omega
        rw [e1, valI, e2, e3]
      by_cases hc : hexD k = c
      · have HR : Hid (valD c = (k : Int)) := by show _ = _; rw [HVI.out, hst, if_pos hc]
        have hcb : (((hexD k).toNat : Int) == (c.toNat : Int)) = true := by rw [hc]; simp
        clear hst hc
        go_wp2_with (go_at_call 43; refine (HDG k hlt _).mono ?_; rintro e w1 ⟨rfl, hw⟩; subst w1)
        go_ret
        exact ⟨by rw [HR.out]; rfl, rfl⟩
      · have HR : Hid (valD c = valI c (16 - (k + 1))) := by show _ = _; rw [HVI.out, hst, if_neg hc]
        have hcb : (((hexD k).toNat : Int) == (c.toNat : Int)) = false := by rw [beq_eq_false_iff_ne]; intro h; exact hc (u8_eq (by omega))
        clear hst hc
        go_wp2_with (go_at_call 43; refine (HDG k hlt _).mono ?_; rintro e w1 ⟨rfl, hw⟩; subst w1)
        go_roundw
        case rel => exact ⟨k + 1, by simp, by omega, HR.out, trivial⟩
        case measure => simp [intOf]; omega
    · have : k = 16 := by omega
      subst this
      have HR : Hid (valD c = -1) := HVI.out
      go_wp2
      go_ret
      exact ⟨by rw [HR.out]; rfl, rfl⟩
end Go.Proofs.YtbckogojnjmjcaaGreatDoor
