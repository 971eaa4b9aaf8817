/-
  Bits: the byte with 80 (hex) added, the byte without it, seven bits laid above what was there.
-/
import Derived.WalkKit
import Derived.Laws.Bits64b
namespace Go.Proofs.Ytglhjgfaelfleab

theorem or128 (q : Nat) : bits BinOp.or IntKind.u8 ((q : Int) % 256) 128 = (q : Int) % 128 + 128 := by
  have h : ∀ x : Fin 256, bits BinOp.or IntKind.u8 (x.val : Int) 128 = (x.val : Int) % 128 + 128 := by decide +kernel
  have := h ⟨q % 256, by omega⟩
  rw [show ((q : Int) % 256) = ((q % 256 : Nat) : Int) by omega, this]
  simp only
  omega

theorem clear128 (x : UInt8) : bits BinOp.andNot IntKind.u8 (x.toNat : Int) 128 = ((x.toNat % 128 : Nat) : Int) := by
  have h : ∀ x : Fin 256, bits BinOp.andNot IntKind.u8 (x.val : Int) 128 = ((x.val % 128 : Nat) : Int) := by decide +kernel
  exact h ⟨x.toNat, x.toNat_lt⟩

theorem bits_or_i64_nat (a b : Nat) (ha : a < 9223372036854775808) (hb : b < 9223372036854775808) :
    bits .or .i64 (a : Int) (b : Int) = ((a ||| b : Nat) : Int) := by
  have hab : a ||| b < 2 ^ 63 := Nat.or_lt_two_pow (by omega) (by omega)
  have e : (BitVec.ofInt 64 (a : Int) ||| BitVec.ofInt 64 (b : Int)).toNat = a ||| b := by
    rw [BitVec.toNat_or]
    simp only [BitVec.toNat_ofInt]
    rw [show ((a : Int) % ((2 ^ 64 : Nat) : Int)).toNat = a by omega, show ((b : Int) % ((2 ^ 64 : Nat) : Int)).toNat = b by omega]
  show IntKind.i64.wrap ((BitVec.ofInt 64 (a : Int) ||| BitVec.ofInt 64 (b : Int)).toNat : Int) = _
  rw [e, IntKind.wrap_i64]
  omega

/-- 'n | c << (7 * k)', n below 2^(7 k). -/
theorem lay_above (n c k : Nat) (hk : k ≤ 8) (hn : n < 128 ^ k) (hc : c < 128) :
    bits .or .i64 (n : Int) (((c * 128 ^ k : Nat)) : Int) = ((n + 128 ^ k * c : Nat) : Int) := by
  have h3 : (128 : Nat) ^ k ≤ 128 ^ 8 := Nat.pow_le_pow_right (by decide) hk
  have h4 : (128 : Nat) ^ 8 = 72057594037927936 := by decide
  have h5 : c * 128 ^ k ≤ 127 * 72057594037927936 := Nat.mul_le_mul (by omega) (by omega)
  rw [bits_or_i64_nat _ _ (by omega) (by omega)]
  have e : (128 : Nat) ^ k = 2 ^ (7 * k) := by rw [Nat.pow_mul]
  rw [Nat.or_comm, Nat.mul_comm c, e, ← Nat.two_pow_add_eq_or_of_lt (by rw [← e]; exact hn), Nat.add_comm]
end Go.Proofs.Ytglhjgfaelfleab
