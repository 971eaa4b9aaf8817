/-
  Numbers, plainly.
-/
import Derived.Test.YtbckogojnjmjcaaGreatDoorPl
namespace Go.Proofs.YtbckogojnjmjcaaGreatDoor
open Go

theorem dec_ne (u : Nat) : Lib.decDigits u ≠ [] := by
  rw [Lib.decDigits]; split <;> simp
theorem dec_dig (u : Nat) : ∀ b ∈ Lib.decDigits u, 48 ≤ b.toNat ∧ b.toNat ≤ 57 := by
  induction u using Nat.strongRecOn with
  | ind u ih =>
    rw [Lib.decDigits]
    split
    · rename_i h
      intro b hb
      cases List.mem_singleton.1 hb
      simp; omega
    · rename_i h
      intro b hb
      rcases List.mem_append.1 hb with hb | hb
      · exact ih (u / 10) (by omega) b hb
      · cases List.mem_singleton.1 hb
        simp; omega
theorem parse_dec (u : Nat) (hu : u < 18446744073709551616) (r : Bs) : Lib.parseUint10 0 (Lib.decDigits u ++ r) = Lib.parseUint10 u r := by
  induction u using Nat.strongRecOn generalizing r with
  | ind u ih =>
    rw [Lib.decDigits]
    split
    · rename_i h
      have e : (UInt8.ofNat (48 + u)).toNat = 48 + u := by simp; omega
      simp only [List.cons_append, List.nil_append, Lib.parseUint10, e]
      rw [if_pos (by omega), if_neg (by omega), if_neg (by omega)]
      congr 1; omega
    · rename_i h
      have e : (UInt8.ofNat (48 + u % 10)).toNat = 48 + u % 10 := by simp; omega
      rw [List.append_assoc, ih (u / 10) (by omega) (by omega)]
      simp only [List.cons_append, List.nil_append, Lib.parseUint10, e]
      rw [if_pos (by omega), if_neg (by omega), if_neg (by omega)]
      congr 1; omega
theorem mag_dec (u : Nat) (hu : u < 18446744073709551616) : Lib.parseMag (Lib.decDigits u) = .ok u := by
  have := parse_dec u hu []
  rw [List.append_nil] at this
  unfold Lib.parseMag
  rw [if_neg (dec_ne u), this]
  rfl
theorem atoi_itoa (n : Int) (h1 : -9223372036854775808 < n) (h2 : n ≤ 9223372036854775807) : Lib.atoiAll (Lib.itoa n) = .ok n := by
  unfold Lib.itoa
  by_cases hn : n < 0
  · rw [if_pos hn]
    unfold Lib.atoiAll
    have e : (45 : UInt8).toNat = 45 := rfl
    simp only [e, or_true, if_true]
    rw [mag_dec _ (by omega)]
    simp only
    rw [if_neg (by omega), if_neg (by omega)]
    congr 1; omega
  · rw [if_neg hn]
    have hd := dec_dig n.toNat
    have hm := mag_dec n.toNat (by omega)
    cases hl : Lib.decDigits n.toNat with
    | nil => exact absurd hl (dec_ne _)
    | cons c r =>
      rw [hl] at hd hm
      have hc := hd c (by simp)
      unfold Lib.atoiAll
      simp only
      rw [if_neg (by omega), hm]
      simp only
      rw [if_neg (by omega), if_neg (by omega), if_neg (by omega)]
      congr 1; omega
theorem itoa_inj {n m : Int} (h1 : -9223372036854775808 < n) (h2 : n ≤ 9223372036854775807) (h3 : -9223372036854775808 < m) (h4 : m ≤ 9223372036854775807) (h : Lib.itoa n = Lib.itoa m) : n = m := by
  have := atoi_itoa n h1 h2
  rw [h, atoi_itoa m h3 h4] at this
  injection this with this
  exact this.symm
theorem itoa_wd (n : Int) : Wd (Lib.itoa n) (Lib.itoa n) := by
  refine .inl ⟨rfl, ?_, ?_⟩
  · unfold Lib.itoa; split
    · simp
    · exact dec_ne _
  · have hd : ∀ u, (Lib.decDigits u).all bareB = true := fun u => by
      rw [List.all_eq_true]
      intro b hb
      have := dec_dig u b hb
      exact bareB_iff.2 (by omega)
    unfold Lib.itoa
    split
    · simp only [List.all_cons, hd, Bool.and_true]; decide
    · exact hd _
theorem dec_len (u : Nat) : (Lib.decDigits u).length ≤ u + 1 := by
  induction u using Nat.strongRecOn with
  | ind u ih =>
    rw [Lib.decDigits]
    split
    · simp
    · have := ih (u / 10) (by omega); simp; omega
theorem dec_len20 (u : Nat) (h : u < 18446744073709551616) : (Lib.decDigits u).length ≤ 20 := by
  rw [Lib.decDigits_length]
  have key : ∀ k v : Nat, v < 10 ^ k → 1 ≤ k → Lib.nDigits v ≤ k := by
    intro k
    induction k with
    | zero => intro v _ h; omega
    | succ k ih =>
      intro v hv _
      by_cases h10 : v < 10
      · rw [Lib.nDigits_small h10]; omega
      · rw [Lib.nDigits_big h10]
        have h1 : v / 10 < 10 ^ k := by rw [Nat.pow_succ] at hv; omega
        have h2 : 1 ≤ k := by
          rcases Nat.eq_zero_or_pos k with rfl | h
          · simp at hv; omega
          · exact h
        have := ih (v / 10) h1 h2
        omega
  exact key 20 u (by omega) (by omega)
theorem itoa_len (n : Int) (h1 : -9223372036854775808 ≤ n) (h2 : n ≤ 9223372036854775807) : (Lib.itoa n).length ≤ 21 := by
  unfold Lib.itoa
  split
  · have := dec_len20 n.natAbs (by omega); simp; omega
  · have := dec_len20 n.toNat (by omega); omega
/-- The number of a word, if it is one. -/
def IsNum (s : Bs) (n : Int) : Prop := -4611686018427387904 ≤ n ∧ n ≤ 4611686018427387904 ∧ Lib.itoa n = s
theorem IsNum.uniq {s : Bs} {n m : Int} (h : IsNum s n) (k : IsNum s m) : n = m := itoa_inj (by have := h.1; omega) (by have := h.2.1; omega) (by have := k.1; omega) (by have := k.2.1; omega) (h.2.2.trans k.2.2.symm)
end Go.Proofs.YtbckogojnjmjcaaGreatDoor
