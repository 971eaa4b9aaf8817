/-
  Sets of nodes as bits: what bits and member do; sets that don't meet are small.
-/
import Derived.Test.YtdgaimiggejleaaVp
import Derived.Test.YtdgaimiggejleaaRin
namespace Go.Proofs.Ytdgaimiggejleaa
open Go.RowKit
set_option linter.unusedVariables false

def bt (a j : Nat) : Nat := a / 2 ^ j % 2
def sumB (a : Nat) : Nat → Nat
  | 0 => 0
  | k + 1 => sumB a k + bt a k
def meB (a b : Nat) : Nat → Bool
  | 0 => false
  | k + 1 => meB a b k || (decide (bt a k = 1) && decide (bt b k = 1))
theorem bt_lt (a j : Nat) : bt a j < 2 := Nat.mod_lt _ (by omega)
theorem sumB_le (a : Nat) : ∀ n, sumB a n ≤ n
  | 0 => Nat.le_refl _
  | n + 1 => by have := sumB_le a n; have := bt_lt a n; simp only [sumB]; omega
theorem meets (a b : Nat) : ∀ n, meB a b n = false → sumB a n + sumB b n ≤ n
  | 0, _ => Nat.le_refl _
  | n + 1, h => by
    simp only [meB, Bool.or_eq_false_iff, Bool.and_eq_false_iff, decide_eq_false_iff_not] at h
    have := meets a b n h.1
    have := bt_lt a n
    have := bt_lt b n
    simp only [sumB]
    omega
theorem half (a i : Nat) : a / 2 ^ i / 2 = a / 2 ^ (i + 1) := by rw [Nat.div_div_eq_div_mul, Nat.pow_succ]

set_option maxRecDepth 100000 in
theorem bits_any (A n : Nat) (w : World) (hA : A < 128) (hn : n ≤ 7) :
    Calls Try.prog 41 #[.int .i64 (A : Int), .int .i64 (n : Int)] w fun e w' => e = .returned (.int .i64 (sumB A n : Int)) ∧ w' = w := by
  go_enter Try.func41, Try.ntmps41
  go_wp2
  go_loopw [0, 5, 6] (fun sv kv iv wr => ∃ i : Nat, sv = .int .i64 ((A / 2 ^ i : Nat) : Int) ∧ kv = .int .i64 (sumB A i : Int) ∧ iv = .int .i64 (i : Int) ∧ i ≤ n ∧ wr = w) (fun _ _ iv _ => n - (intOf iv).toNat)
  case atStart => exact ⟨0, by simp, rfl, rfl, Nat.zero_le _, rfl⟩
  case round =>
    obtain ⟨i, rfl, rfl, rfl, hi, rfl⟩ := hrel
    have hs := sumB_le A i
    have hlt := Nat.div_le_self A (2 ^ i)
    have HB : Hid (bt A i = A / 2 ^ i % 2) := rfl
    have HS : Hid (sumB A (i + 1) = sumB A i + A / 2 ^ i % 2) := rfl
    have HH : Hid (A / 2 ^ i / 2 = A / 2 ^ (i + 1)) := half A i
    generalize A / 2 ^ i = s at *
    generalize hk : sumB A i = k at *
    have t1 : (s : Int).tmod 2 = ((s % 2 : Nat) : Int) := by rw [Int.tmod_eq_emod_of_nonneg (by omega)]; omega
    have t2 : (s : Int).tdiv 2 = ((s / 2 : Nat) : Int) := by rw [Int.tdiv_eq_ediv_of_nonneg (by omega)]; omega
    have t3 : IntKind.i64.wrap ((s / 2 : Nat) : Int) = ((s / 2 : Nat) : Int) := by rw [IntKind.wrap_i64]; omega
    have t4 : IntKind.i64.wrap ((k : Int) + ((s % 2 : Nat) : Int)) = ((k + s % 2 : Nat) : Int) := by rw [IntKind.wrap_i64]; omega
    by_cases hlt2 : i < n
    · go_wp2
      refine ⟨⟨i + 1, ?_, ?_, by go_num, hlt2, by trivial⟩, by simp [intOf]; omega⟩
      · rw [← HH.out]; simp
      · rw [HS.out]; simp
    · have : i = n := by omega
      subst this
      go_wp2
      go_ret
      exact ⟨by simp [hk], rfl⟩

/-- Whether a set has a node. -/
def memB (A : Nat) (id : Int) : Bool := decide (bt A (id - 1).toNat = 1)
set_option maxRecDepth 100000 in
theorem member_any (A : Nat) (id : Int) (w : World) (hA : A < 128) (h1 : 1 ≤ id) (h7 : id ≤ 7) :
    Calls Try.prog 42 #[.int .i64 (A : Int), .int .i64 id] w fun e w' => e = .returned (.bool (memB A id)) ∧ w' = w := by
  obtain ⟨n, rfl⟩ : ∃ n : Nat, id = (n : Int) + 1 := ⟨(id - 1).toNat, by omega⟩
  have HM : Hid (memB A ((n : Int) + 1) = decide (A / 2 ^ n % 2 = 1)) := by show _ = _; simp [memB, bt]
  rw [HM.out]
  go_enter Try.func42, Try.ntmps42
  go_wp2
  go_loopw [0, 5] (fun sv iv wr => ∃ i : Nat, sv = .int .i64 ((A / 2 ^ i : Nat) : Int) ∧ iv = .int .i64 ((i : Int) + 1) ∧ i ≤ n ∧ wr = w) (fun _ iv _ => n + 1 - (intOf iv).toNat)
  case atStart => exact ⟨0, by simp, rfl, Nat.zero_le _, rfl⟩
  case round =>
    obtain ⟨i, rfl, rfl, hi, rfl⟩ := hrel
    have hlt := Nat.div_le_self A (2 ^ i)
    have HH : Hid (A / 2 ^ i / 2 = A / 2 ^ (i + 1)) := half A i
    by_cases hlt2 : i < n
    · generalize A / 2 ^ i = s at *
      have t2 : (s : Int).tdiv 2 = ((s / 2 : Nat) : Int) := by rw [Int.tdiv_eq_ediv_of_nonneg (by omega)]; omega
      have t3 : IntKind.i64.wrap ((s / 2 : Nat) : Int) = ((s / 2 : Nat) : Int) := by rw [IntKind.wrap_i64]; omega
      have t5 : IntKind.i64.wrap ((i : Int) + 1 + 1) = (i : Int) + 1 + 1 := by rw [IntKind.wrap_i64]; omega
      have t6 : (i : Int) + 1 < (n : Int) + 1 := by omega
      go_wp2
      refine ⟨⟨i + 1, ?_, by simp, hlt2, by trivial⟩, by simp [intOf]; omega⟩
      rw [← HH.out]; simp
    · have : i = n := by omega
      subst this
      generalize hss : A / 2 ^ i = s at *
      have t1 : (s : Int).tmod 2 = ((s % 2 : Nat) : Int) := by rw [Int.tmod_eq_emod_of_nonneg (by omega)]; omega
      have t6 : ¬ (i : Int) + 1 < (i : Int) + 1 := by omega
      go_wp2
      go_ret
      have h3 : ((s : Int) % 2 == 1) = decide (s % 2 = 1) := by
        by_cases h : s % 2 = 1
        · have h2 : (s : Int) % 2 = 1 := by omega
          simp [h, h2]
        · have h2 : (s : Int) % 2 = 0 := by omega
          simp [h, h2]
      refine ⟨?_, rfl⟩
      rw [← h3]
      rfl
end Go.Proofs.Ytdgaimiggejleaa
