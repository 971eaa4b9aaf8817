/-
  The name of a snapshot: the document's.
-/
import Derived.Test.YtadajbdmlmickaaGreatDoorNam
namespace Go.Proofs.YtadajbdmlmickaaGreatDoor
open Go.RowKit Go.Shelf
set_option linter.unusedVariables false

theorem enc_dg : ∀ d : Nat, d < 10 → Utf8.encode (48 + (d : Int)) = ⟨#[UInt8.ofNat (48 + d)]⟩ := by
  intro d hd
  match d, hd with
  | 0, _ => rfl
  | 1, _ => rfl
  | 2, _ => rfl
  | 3, _ => rfl
  | 4, _ => rfl
  | 5, _ => rfl
  | 6, _ => rfl
  | 7, _ => rfl
  | 8, _ => rfl
  | 9, _ => rfl
  | d + 10, h => omega
set_option maxRecDepth 100000 in
set_option maxHeartbeats 400000 in
theorem refSnapName_any (n : Nat) (h2 : n ≤ 4611686018427387904) (w : World) : Calls Tryz.prog 23 #[.int .i64 (n : Int)] w fun e w' => e = .returned (.string ⟨(nmL n).toArray⟩) ∧ w' = w := by
  have HB : Hid (n ≤ 4611686018427387904) := h2
  have HQ : Hid (∀ k : Nat, ((n / 10 ^ k : Nat) : Int) ≤ 4611686018427387904) := fun k => by have := Nat.div_le_self n (10 ^ k); omega
  clear h2
  go_enter Tryz.func23, Tryz.ntmps23
  go_wp2
  go_loopw [0, 3, 4] (fun qv sv iv wr => ∃ k : Nat, qv = .int .i64 ((n / 10 ^ k : Nat) : Int) ∧ sv = .string ⟨(low k n).toArray⟩ ∧ iv = .int .i64 (k : Int) ∧ k ≤ 19 ∧ wr = w) (fun qv sv iv _ => 19 - (intOf iv).toNat)
  case atStart => exact ⟨0, by simp, rfl, rfl, Nat.zero_le _, rfl⟩
  case round =>
    obtain ⟨k, rfl, rfl, rfl, hk, rfl⟩ := hrel
    have HL : Hid ((low k n).length = k) := low_len k n
    have HS : Hid (low (k + 1) n = Lib.dg n k :: low k n) := low_succ k n
    have hq := HQ.out k
    obtain ⟨q, hq'⟩ : ∃ q, n / 10 ^ k = q := ⟨_, rfl⟩
    rw [hq'] at hq ⊢
    have HQ' : Hid (n / 10 ^ k = q) := hq'
    obtain ⟨L, hL⟩ : ∃ L, low k n = L := ⟨_, rfl⟩
    rw [hL] at HL HS ⊢
    have HL' : Hid (low k n = L) := hL
    clear hq' hL
    by_cases hlt : k < 19
    · have d1 : decide ((k : Int) < 19) = true := by simp; omega
      have d2 : IntKind.i64.wrap (Int.tmod (q : Int) 10) = ((q % 10 : Nat) : Int) := by
        have e : Int.tmod (q : Int) 10 = ((q % 10 : Nat) : Int) := rfl
        rw [e, IntKind.wrap_i64]
        have := Nat.mod_lt q (show 0 < 10 by decide)
        omega
      go_wp2
      all_goals have HD3 : Utf8.encode (48 + (q : Int) % 10) = ⟨#[Lib.dg n k]⟩ := (by
        have := enc_dg (q % 10) (Nat.mod_lt _ (by decide))
        rw [Lib.dg, HQ'.out]
        exact this)
      all_goals first
        | (refine ⟨⟨k + 1, ?_, ?_, by go_num, by omega, trivial⟩, by simp [intOf]; omega⟩
           · rw [Nat.pow_succ, ← Nat.div_div_eq_div_mul, HQ'.out]; rfl
           · rw [HS.out, HD3]; rfl)
        | (exfalso
           have hl := HL.out
           have e : (ByteArray.mk #[Lib.dg n k]).size = 1 := rfl
           rename_i hx
           rw [HD3, e] at hx
           omega)
    · have ek : k = 19 := by omega
      subst ek
      have d1 : decide (((19 : Nat) : Int) < 19) = false := by decide
      have HN : Hid (nmL n = [115, 110, 97, 112, 45] ++ L) := by show nmL n = _; rw [nmL, HL'.out]
      go_wp2
      all_goals first
        | (exfalso; have := HL.out; omega)
        | skip
      go_ret
      refine ⟨?_, rfl⟩
      rw [HN.out]
      rfl
end Go.Proofs.YtadajbdmlmickaaGreatDoor
