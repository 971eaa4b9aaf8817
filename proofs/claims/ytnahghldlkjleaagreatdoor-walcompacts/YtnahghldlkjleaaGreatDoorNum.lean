/-
  Numbers of nineteen digits: what is of no program.
-/
import Derived.Lib.ItoaMem
import Derived.Lib.ParseIntB
import Derived.RowKit
import Derived.Shelf.Lay
namespace Go.Proofs.YtnahghldlkjleaaGreatDoor
open Go.RowKit Go.Shelf
set_option linter.unusedVariables false

/-- The k low digits of u. -/
def low (k u : Nat) : List UInt8 := (List.range k).map fun t => Lib.dg u (k - 1 - t)
theorem low_len (k u : Nat) : (low k u).length = k := by simp [low]
theorem low_succ (k u : Nat) : low (k + 1) u = Lib.dg u k :: low k u := by
  unfold low
  rw [List.range_succ_eq_map, List.map_cons, List.map_map]
  congr 1
  refine List.map_congr_left fun t ht => ?_
  have := List.mem_range.1 ht
  show Lib.dg u (k + 1 - 1 - (t + 1)) = Lib.dg u (k - 1 - t)
  congr 1
  omega
theorem dg_zero {u t : Nat} (h : u < 10 ^ t) : Lib.dg u t = 48 := by
  unfold Lib.dg
  rw [Nat.div_eq_of_lt h]
  rfl
theorem nDigits_le : ∀ (k u : Nat), u < 10 ^ (k + 1) → Lib.nDigits u ≤ k + 1
  | 0, u, h => by rw [Lib.nDigits_small (by simpa using h)]; omega
  | k + 1, u, h => by
    by_cases h10 : u < 10
    · rw [Lib.nDigits_small h10]; omega
    · rw [Lib.nDigits_big h10]
      have := nDigits_le k (u / 10) (by rw [Nat.pow_succ] at h; omega)
      omega
theorem low_eq {k u : Nat} (h : u < 10 ^ (k + 1)) : low (k + 1) u = List.replicate (k + 1 - Lib.nDigits u) 48 ++ Lib.decDigits u := by
  have hn := nDigits_le k u h
  refine List.ext_getElem? fun i => ?_
  rw [Lib.decDigits_eq]
  unfold low
  by_cases h1 : i < k + 1 - Lib.nDigits u
  · rw [List.getElem?_append_left (by simpa using h1), List.getElem?_replicate, if_pos h1, List.getElem?_map, List.getElem?_range (by omega)]
    simp only [Option.map_some, Option.some.injEq]
    refine dg_zero ?_
    refine Nat.lt_of_lt_of_le (Lib.lt_pow_nDigits u) (Nat.pow_le_pow_right (by decide) (by omega))
  · rw [List.getElem?_append_right (by simpa using h1), List.length_replicate, List.getElem?_map, List.getElem?_map]
    by_cases h2 : i < k + 1
    · rw [List.getElem?_range h2, List.getElem?_range (by omega)]
      simp only [Option.map_some, Option.some.injEq]
      congr 1
      omega
    · rw [List.getElem?_eq_none (by simp; omega), List.getElem?_eq_none (by simp; omega)]
      rfl
/-- Is it a digit? -/
def isDg (c : UInt8) : Bool := 48 ≤ c.toNat && c.toNat ≤ 57
/-- The number that digits spell, behind acc. -/
def valL (acc : Nat) (l : List UInt8) : Nat := l.foldl (fun a c => a * 10 + (c.toNat - 48)) acc
theorem valL_lt : ∀ (l : List UInt8) (acc : Nat), (∀ c ∈ l, isDg c = true) → valL acc l < (acc + 1) * 10 ^ l.length
  | [], acc, _ => by simp [valL]
  | c :: r, acc, h => by
    have h1 := h c (by simp)
    simp only [isDg, Bool.and_eq_true, decide_eq_true_eq] at h1
    have ih := valL_lt r (acc * 10 + (c.toNat - 48)) (fun x hx => h x (by simp [hx]))
    show valL (acc * 10 + (c.toNat - 48)) r < _
    rw [List.length_cons, Nat.pow_succ]
    refine Nat.lt_of_lt_of_le ih ?_
    have : acc * 10 + (c.toNat - 48) + 1 ≤ (acc + 1) * 10 := by omega
    calc (acc * 10 + (c.toNat - 48) + 1) * 10 ^ r.length ≤ (acc + 1) * 10 * 10 ^ r.length := Nat.mul_le_mul_right _ this
      _ = (acc + 1) * (10 ^ r.length * 10) := by rw [Nat.mul_assoc, Nat.mul_comm 10]
theorem valL_ge : ∀ (l : List UInt8) (acc : Nat), acc ≤ valL acc l
  | [], acc => Nat.le_refl _
  | c :: r, acc => by
    have := valL_ge r (acc * 10 + (c.toNat - 48))
    show acc ≤ valL (acc * 10 + (c.toNat - 48)) r
    omega
theorem parse_dg : ∀ (l : List UInt8) (acc : Nat), (acc + 1) * 10 ^ l.length ≤ 10 ^ 19 → Lib.parseUintM 18446744073709551615 acc l = if l.all isDg then .ok (valL acc l) else .«syntax»
  | [], acc, h => by simp [Lib.parseUintM, valL]
  | c :: r, acc, h => by
    rw [List.length_cons, Nat.pow_succ] at h
    have hp : 1 ≤ 10 ^ r.length := Nat.one_le_pow _ _ (by decide)
    have hacc : (acc + 1) * 10 ≤ 10 ^ 19 := by
      calc (acc + 1) * 10 = (acc + 1) * (1 * 10) := by omega
        _ ≤ (acc + 1) * (10 ^ r.length * 10) := Nat.mul_le_mul_left _ (Nat.mul_le_mul_right _ hp)
        _ ≤ 10 ^ 19 := h
    simp only [Nat.reducePow] at hacc
    unfold Lib.parseUintM
    by_cases hc : 48 ≤ c.toNat ∧ c.toNat ≤ 57
    · have hd : isDg c = true := by simp [isDg, hc.1, hc.2]
      rw [if_pos hc, if_neg (by omega), if_neg (by omega), parse_dg r _ ?_]
      · simp [hd, valL]
      · refine Nat.le_trans ?_ h
        have : acc * 10 + (c.toNat - 48) + 1 ≤ (acc + 1) * 10 := by omega
        calc (acc * 10 + (c.toNat - 48) + 1) * 10 ^ r.length ≤ (acc + 1) * 10 * 10 ^ r.length := Nat.mul_le_mul_right _ this
          _ = (acc + 1) * (10 ^ r.length * 10) := by rw [Nat.mul_assoc, Nat.mul_comm 10]
    · have hd : isDg c = false := by
        cases hb : isDg c
        · rfl
        · simp only [isDg, Bool.and_eq_true, decide_eq_true_eq] at hb; exact absurd hb hc
      rw [if_neg hc]
      simp [hd]
/-- What nineteen bytes parse to. -/
theorem parse19 {l : List UInt8} (h : l.length = 19) : Lib.parseUintB 64 l = if l.all isDg then .ok (valL 0 l) else .«syntax» := by
  unfold Lib.parseUintB
  rw [if_neg (by rintro rfl; simp at h)]
  have := parse_dg l 0 (by rw [h]; omega)
  simpa using this
theorem dg_nat (u t : Nat) : (Lib.dg u t).toNat = 48 + u / 10 ^ t % 10 := by
  unfold Lib.dg
  have : u / 10 ^ t % 10 < 10 := Nat.mod_lt _ (by decide)
  rw [UInt8.toNat_ofNat']
  omega
theorem low_dg (k u : Nat) : (low k u).all isDg = true := by
  rw [List.all_eq_true]
  intro c hc
  obtain ⟨t, -, rfl⟩ := List.mem_map.1 hc
  have h1 := dg_nat u (k - 1 - t)
  have h2 : u / 10 ^ (k - 1 - t) % 10 < 10 := Nat.mod_lt _ (by decide)
  simp only [isDg, Bool.and_eq_true, decide_eq_true_eq]
  omega
theorem val_low : ∀ (k u acc : Nat), valL acc (low k u) = acc * 10 ^ k + u % 10 ^ k
  | 0, u, acc => by simp [low, valL, Nat.mod_one]
  | k + 1, u, acc => by
    rw [low_succ]
    show valL (acc * 10 + ((Lib.dg u k).toNat - 48)) (low k u) = _
    rw [val_low k u, dg_nat]
    have e : 48 + u / 10 ^ k % 10 - 48 = u / 10 ^ k % 10 := by omega
    rw [e, Nat.pow_succ, Nat.mod_mul]
    rw [Nat.add_mul, Nat.mul_assoc, Nat.mul_comm 10 (10 ^ k), Nat.add_assoc, Nat.mul_comm (u / 10 ^ k % 10), Nat.add_comm (10 ^ k * (u / 10 ^ k % 10))]
end Go.Proofs.YtnahghldlkjleaaGreatDoor
