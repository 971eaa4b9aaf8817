/-
  The document's number, plainly.
-/
import Derived.Test.YtbckogojnjmjcaaGreatDoorPa
namespace Go.Proofs.YtbckogojnjmjcaaGreatDoor
open Go

/-- The document's loop over digits. -/
def dv : Nat → Bs → Option Nat
  | n, [] => some n
  | n, c :: r => if c.toNat < 48 ∨ 57 < c.toNat ∨ 461168601842738790 < n then none else dv (10 * n + (c.toNat - 48)) r
def sgn (neg : Bool) (t : Bs) : Bs := if neg then 45 :: t else t
def sg (neg : Bool) (u : Nat) : Int := if neg then -(u : Int) else u
theorem dec_snoc (n d : Nat) (hn : 0 < n) (hd : d < 10) : Lib.decDigits (10 * n + d) = Lib.decDigits n ++ [UInt8.ofNat (48 + d)] := by
  rw [Lib.decDigits, dif_neg (by omega), show (10 * n + d) / 10 = n by omega, show (10 * n + d) % 10 = d by omega]
theorem dec_one (d : Nat) (hd : d < 10) : Lib.decDigits d = [UInt8.ofNat (48 + d)] := by
  rw [Lib.decDigits, dif_pos hd]
theorem ofNat_dig {c : UInt8} (h1 : 48 ≤ c.toNat) : UInt8.ofNat (48 + (c.toNat - 48)) = c := by
  rw [show 48 + (c.toNat - 48) = c.toNat by omega]
  simp
theorem dv_dec (r : Bs) : ∀ n u, 0 < n → dv n r = some u → Lib.decDigits u = Lib.decDigits n ++ r := by
  induction r with
  | nil => intro n u _ h; simp only [dv, Option.some.injEq] at h; subst h; simp
  | cons c r ih =>
    intro n u hn h
    simp only [dv] at h
    split at h
    · cases h
    · rename_i hc
      have h1 : 48 ≤ c.toNat := by omega
      have := ih _ u (by omega) h
      rw [this, dec_snoc n _ hn (by omega), ofNat_dig h1, List.append_assoc]
      rfl
theorem dv_of_dec (u : Nat) (hu : u ≤ 4611686018427387904) (r : Bs) : dv 0 (Lib.decDigits u ++ r) = dv u r := by
  induction u using Nat.strongRecOn generalizing r with
  | ind u ih =>
    rw [Lib.decDigits]
    split
    · rename_i h
      have e : (UInt8.ofNat (48 + u)).toNat = 48 + u := by simp; omega
      simp only [List.cons_append, List.nil_append, dv, e]
      rw [if_neg (by omega)]
      congr 1; omega
    · rename_i h
      have e : (UInt8.ofNat (48 + u % 10)).toNat = 48 + u % 10 := by simp; omega
      rw [List.append_assoc, ih (u / 10) (by omega) (by omega)]
      simp only [List.cons_append, List.nil_append, dv, e]
      rw [if_neg (by omega)]
      congr 1; omega
theorem dec_head (u : Nat) (hu : 0 < u) : ∃ c r, Lib.decDigits u = c :: r ∧ c.toNat ≠ 48 := by
  induction u using Nat.strongRecOn with
  | ind u ih =>
    rw [Lib.decDigits]
    split
    · rename_i h
      refine ⟨_, _, rfl, ?_⟩
      simp; omega
    · rename_i h
      obtain ⟨c, r, h1, h2⟩ := ih (u / 10) (by omega) (by omega)
      rw [h1]
      exact ⟨c, _, rfl, h2⟩
theorem dec_len19 (u : Nat) (h : u ≤ 4611686018427387904) : (Lib.decDigits u).length ≤ 19 := by
  rw [Lib.decDigits_length]
  have key : ∀ k v : Nat, v < 10 ^ k → 1 ≤ k → Lib.nDigits v ≤ k := by
    intro k
    induction k with
    | zero => intro v _ h; omega
    | succ k ih =>
      intro v hv _
      by_cases h10 : v < 10
      · rw [Lib.nDigits_small h10]; omega
      · rw [Lib.nDigits_big h10]
        have h1 : v / 10 < 10 ^ k := by rw [Nat.pow_succ] at hv; omega
        have h2 : 1 ≤ k := by
          rcases Nat.eq_zero_or_pos k with rfl | h
          · simp at hv; omega
          · exact h
        have := ih (v / 10) h1 h2
        omega
  exact key 19 u (by omega) (by omega)
/-- What a number's word is. -/
theorem IsNum.open {neg : Bool} {t : Bs} {n : Int} (h : IsNum (sgn neg t) n) (h45 : neg = false → t.head? ≠ some 45) : t = Lib.decDigits n.natAbs ∧ n = sg neg n.natAbs ∧ (neg = true → 0 < n.natAbs) ∧ n.natAbs ≤ 4611686018427387904 := by
  obtain ⟨h1, h2, h3⟩ := h
  unfold Lib.itoa at h3
  have hb : n.natAbs ≤ 4611686018427387904 := by omega
  by_cases hn : n < 0
  · rw [if_pos hn] at h3
    cases neg with
    | true =>
      simp only [sgn, if_true] at h3
      injection h3 with _ h3
      refine ⟨h3.symm, ?_, fun _ => by omega, hb⟩
      simp only [sg, if_true]; omega
    | false =>
      simp only [sgn, Bool.false_eq_true, if_false] at h3
      exact absurd (by rw [← h3]; rfl) (h45 rfl)
  · rw [if_neg hn] at h3
    have e : n.toNat = n.natAbs := by omega
    rw [e] at h3
    cases neg with
    | true =>
      simp only [sgn, if_true] at h3
      have := dec_dig n.natAbs 45 (by rw [h3]; simp)
      have e45 : (45 : UInt8).toNat = 45 := rfl
      omega
    | false =>
      simp only [sgn, Bool.false_eq_true, if_false] at h3
      refine ⟨h3.symm, ?_, (by intro h; cases h), hb⟩
      simp only [sg, Bool.false_eq_true, if_false]; omega
theorem num_nil {neg : Bool} (n : Int) : ¬ IsNum (sgn neg []) n := fun h => dec_ne _ (h.open (fun _ => by simp)).1.symm
theorem num_long {neg : Bool} {t : Bs} (h45 : neg = false → t.head? ≠ some 45) (hl : 19 < t.length) (n : Int) : ¬ IsNum (sgn neg t) n := fun h => by
  obtain ⟨h1, -, -, h4⟩ := h.open h45
  have := dec_len19 _ h4
  rw [h1] at hl
  omega
theorem num_zero {neg : Bool} {t : Bs} (h45 : neg = false → t.head? ≠ some 45) (h0 : t.head? = some 48) (hs : sgn neg t ≠ [48]) (n : Int) : ¬ IsNum (sgn neg t) n := fun h => by
  obtain ⟨h1, h2, h3, h4⟩ := h.open h45
  by_cases hz : 0 < n.natAbs
  · obtain ⟨c, r, e1, e2⟩ := dec_head _ hz
    rw [h1, e1] at h0
    simp only [List.head?_cons, Option.some.injEq] at h0
    rw [h0] at e2
    exact e2 rfl
  · have hz0 : n.natAbs = 0 := by omega
    rw [hz0, dec_one 0 (by omega)] at h1
    cases neg with
    | true => exact hz (h3 rfl)
    | false => exact hs (by simp only [sgn, Bool.false_eq_true, if_false]; exact h1)
theorem num_bad {neg : Bool} {t : Bs} (h45 : neg = false → t.head? ≠ some 45) (h : ∀ u, dv 0 t = some u → 4611686018427387904 < u) (n : Int) : ¬ IsNum (sgn neg t) n := fun hn => by
  obtain ⟨h1, -, -, h4⟩ := hn.open h45
  have := dv_of_dec n.natAbs h4 []
  rw [List.append_nil, ← h1] at this
  have := h _ this
  omega
theorem num_good {neg : Bool} {t : Bs} (hne : t ≠ []) (h0 : t.head? = some 48 → sgn neg t = [48]) {u : Nat} (h : dv 0 t = some u) (hu : u ≤ 4611686018427387904) : IsNum (sgn neg t) (sg neg u) := by
  have hb : -4611686018427387904 ≤ sg neg u ∧ sg neg u ≤ 4611686018427387904 := by unfold sg; split <;> omega
  refine ⟨hb.1, hb.2, ?_⟩
  cases t with
  | nil => exact absurd rfl hne
  | cons c r =>
    simp only [dv] at h
    split at h
    · cases h
    · rename_i hc
      by_cases h48 : c = 48
      · subst h48
        have hs := h0 rfl
        cases neg with
        | true => simp only [sgn, if_true] at hs; cases hs
        | false =>
          simp only [sgn, Bool.false_eq_true, if_false] at hs
          injection hs with _ hr
          subst hr
          simp only [dv, Option.some.injEq] at h
          rw [← h]
          show Lib.itoa 0 = [48]
          unfold Lib.itoa
          rw [if_neg (by omega), show (0 : Int).toNat = 0 from rfl, dec_one 0 (by omega)]
          rfl
      · have hcn : c.toNat ≠ 48 := fun e => h48 (by
          have : c = UInt8.ofNat c.toNat := by simp
          rw [this, e]; rfl)
        have hd := dv_dec r _ u (by omega) h
        rw [show 10 * 0 + (c.toNat - 48) = c.toNat - 48 by omega, dec_one (c.toNat - 48) (by omega), ofNat_dig (by omega)] at hd
        have hu0 : 0 < u := by
          rcases Nat.eq_zero_or_pos u with rfl | h
          · rw [dec_one 0 (by omega)] at hd
            injection hd with h1 _
            exact absurd h1.symm h48
          · exact h
        cases neg with
        | true =>
          simp only [sgn, sg, if_true]
          unfold Lib.itoa
          rw [if_pos (by omega), show (-(u : Int)).natAbs = u by omega, hd]
          rfl
        | false =>
          simp only [sgn, sg, Bool.false_eq_true, if_false]
          unfold Lib.itoa
          rw [if_neg (by omega), show (u : Int).toNat = u by omega, hd]
          rfl
end Go.Proofs.YtbckogojnjmjcaaGreatDoor
