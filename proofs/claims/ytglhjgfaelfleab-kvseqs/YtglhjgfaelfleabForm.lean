/-
  One form: a number's bytes, read again, are that number in just these bytes, whatever lies behind; no number's bytes begin another's; they never get fewer.
-/
import Derived.Test.YtglhjgfaelfleabRefInt
namespace Go.Proofs.Ytglhjgfaelfleab

theorem num_fuel : ∀ (f g n : Nat), n < 128 ^ (f + 1) → f ≤ g → num g n = num f n
  | 0, g, n, h, _ => by rw [num_lt (by simpa using h), num_lt (by simpa using h)]
  | f + 1, 0, n, _, hg => by omega
  | f + 1, g + 1, n, h, hg => by
    by_cases hn : n < 128
    · rw [num_lt hn, num_lt hn]
    · rw [num_ge (by omega), num_ge (by omega), num_fuel f g (n / 128) (by rw [Nat.pow_succ] at h; omega) (by omega)]

theorem pow9 : (128 : Nat) ^ (8 + 1) = 9223372036854775808 := by decide

theorem numB_eq (n : Nat) (h : n ≤ 4611686018427387904) : numB n = num 8 n := num_fuel 8 9 n (by rw [pow9]; omega) (by omega)

theorem ofNat_lo {n : Nat} (h : n < 128) : (UInt8.ofNat n).toNat = n := by simp; omega
theorem ofNat_hi (n : Nat) : (UInt8.ofNat (n % 128 + 128)).toNat = n % 128 + 128 := by simp; omega

theorem ahead_num : ∀ (f g n : Nat) (t : List UInt8), n < 128 ^ (f + 1) → f < g → ahead g (num f n ++ t) = num f n
  | 0, 0, n, t, _, hg => by omega
  | f + 1, 0, n, t, _, hg => by omega
  | 0, g + 1, n, t, h, _ => by
    have hn : n < 128 := by simpa using h
    rw [num_lt hn]
    simp only [List.cons_append, List.nil_append, ahead, ofNat_lo hn, hn, if_true]
  | f + 1, g + 1, n, t, h, hg => by
    by_cases hn : n < 128
    · rw [num_lt hn]
      simp only [List.cons_append, List.nil_append, ahead, ofNat_lo hn, hn, if_true]
    · rw [num_ge (by omega)]
      have hi := ofNat_hi n
      simp only [List.cons_append, ahead]
      rw [if_neg (by omega), ahead_num f g (n / 128) t (by rw [Nat.pow_succ] at h; omega) (by omega)]

theorem val_num : ∀ (f n : Nat), n < 128 ^ (f + 1) → val (num f n) = n
  | 0, n, h => by
    have hn : n < 128 := by simpa using h
    rw [num_lt hn]; simp only [val, ofNat_lo hn]; omega
  | f + 1, n, h => by
    by_cases hn : n < 128
    · rw [num_lt hn]; simp only [val, ofNat_lo hn]; omega
    · rw [num_ge (by omega)]
      simp only [val, ofNat_hi, val_num f (n / 128) (by rw [Nat.pow_succ] at h; omega)]
      omega

theorem lastB_cons (x : UInt8) (l : List UInt8) (h : l ≠ []) : lastB (x :: l) = lastB l := by
  unfold lastB
  cases l with
  | nil => exact absurd rfl h
  | cons y l => simp [List.getLastD]

theorem last_num : ∀ (f n : Nat), n < 128 ^ (f + 1) → lastB (num f n) < 128 ∧ (lastB (num f n) = 0 → n = 0)
  | 0, n, h => by
    have hn : n < 128 := by simpa using h
    have h2 := ofNat_lo hn
    rw [num_lt hn]; simp only [lastB, List.getLastD_cons, List.getLastD_nil]; omega
  | f + 1, n, h => by
    by_cases hn : n < 128
    · have h2 := ofNat_lo hn
      rw [num_lt hn]; simp only [lastB, List.getLastD_cons, List.getLastD_nil]; omega
    · rw [num_ge (by omega), lastB_cons _ _ (num_ne _ _)]
      have := last_num f (n / 128) (by rw [Nat.pow_succ] at h; omega)
      exact ⟨this.1, fun e => by have := this.2 e; omega⟩

/-- There and back: a number's bytes, with anything behind them. -/
theorem intAt_num (n : Nat) (t : List UInt8) (h : n ≤ 4611686018427387904) : intAt (numB n ++ t) ((0 : Nat) : Int) = (n, (numB n).length, 0) := by
  have hlt : n < 128 ^ (8 + 1) := by rw [pow9]; omega
  have hp := num_len_pos 8 n
  have hl := last_num 8 n hlt
  unfold intAt
  rw [numB_eq n h, if_neg (by simp; omega)]
  simp only [Int.toNat_natCast, List.drop_zero]
  rw [ahead_num 8 9 n t hlt (by omega)]
  unfold verdict
  have hz : ¬ (lastB (num 8 n) = 0 ∧ 1 < (num 8 n).length) := by
    rintro ⟨h1, h2⟩
    have := hl.2 h1
    subst this
    rw [num_lt (by omega)] at h2
    simp at h2
  rw [if_neg (by omega), if_neg (by omega), if_neg hz, val_num 8 n hlt, if_neg (by omega)]

theorem numB_front (a b : Nat) (ha : a ≤ 4611686018427387904) (hb : b ≤ 4611686018427387904) (hl : (numB a).length ≤ (numB b).length) : (numB a = (numB b).take (numB a).length) ↔ a = b := by
  constructor
  · intro h
    have h1 := intAt_num a ((numB b).drop (numB a).length) ha
    have h2 := intAt_num b [] hb
    have h3 : numB a ++ (numB b).drop (numB a).length = numB b := by
      conv => lhs; arg 1; rw [h]
      exact List.take_append_drop _ _
    rw [h3] at h1
    rw [List.append_nil, h1] at h2
    exact congrArg Prod.fst h2
  · rintro rfl
    simp

theorem num_len_mono : ∀ (f a b : Nat), a ≤ b → (num f a).length ≤ (num f b).length
  | 0, a, b, _ => by simp [num]
  | f + 1, a, b, h => by
    by_cases ha : a < 128
    · rw [num_lt ha]; exact num_len_pos (f + 1) b
    · rw [num_ge (by omega), num_ge (by omega)]
      have := num_len_mono f (a / 128) (b / 128) (Nat.div_le_div_right h)
      simpa using this
end Go.Proofs.Ytglhjgfaelfleab
