/-
  The plain mathematics of the wire form: the bytes of a number, the bytes that a number may have, the number that bytes tell. No program is named here.
-/
import Derived.Below
namespace Go.Proofs.Ytglhjgfaelfleab

/-- The bytes of a number, the lowest seven bits first; f: how many more bytes there may be. -/
def num : Nat → Nat → List UInt8
  | 0, n => [UInt8.ofNat n]
  | f + 1, n => if n < 128 then [UInt8.ofNat n] else UInt8.ofNat (n % 128 + 128) :: num f (n / 128)

/-- The number's bytes, as the document has them. -/
def numB (n : Nat) : List UInt8 := num 9 n

/-- The bytes ahead, up to the one that ends a number, f at most. -/
def ahead : Nat → List UInt8 → List UInt8
  | 0, _ => []
  | _ + 1, [] => []
  | f + 1, x :: l => if x.toNat < 128 then [x] else x :: ahead f l

/-- What seven bits each tell, the lowest first. -/
def val : List UInt8 → Nat
  | [] => 0
  | x :: l => x.toNat % 128 + 128 * val l

def lastB (p : List UInt8) : Nat := (p.getLastD 0).toNat

/-- The answer to bytes of which p are those that a number may have: the number, its bytes, the error. -/
def verdict (p : List UInt8) : Nat × Nat × Nat :=
  if 128 ≤ lastB p ∧ p.length < 9 then (0, 0, 2)
  else if 128 ≤ lastB p then (0, 0, 4)
  else if lastB p = 0 ∧ 1 < p.length then (0, 0, 4)
  else if 4611686018427387904 < val p then (0, 0, 1)
  else (val p, p.length, 0)

/-- The number at a place, as the document has it. -/
def intAt (b : List UInt8) (at' : Int) : Nat × Nat × Nat :=
  if at' < 0 ∨ (b.length : Int) ≤ at' then (0, 0, 2) else verdict (ahead 9 (b.drop at'.toNat))

theorem num_lt {f n : Nat} (h : n < 128) : num f n = [UInt8.ofNat n] := by
  cases f <;> simp [num, h]

theorem num_ge {f n : Nat} (h : 128 ≤ n) : num (f + 1) n = UInt8.ofNat (n % 128 + 128) :: num f (n / 128) := by
  simp [num, Nat.not_lt.2 h]

theorem num_ne (f n : Nat) : num f n ≠ [] := by
  cases f with
  | zero => simp [num]
  | succ f => simp only [num]; split <;> simp

theorem num_len_pos (f n : Nat) : 0 < (num f n).length := List.length_pos_iff.2 (num_ne f n)

theorem num_len_le : ∀ (f n : Nat), (num f n).length ≤ f + 1
  | 0, n => by simp [num]
  | f + 1, n => by
    simp only [num]; split
    · simp
    · have := num_len_le f (n / 128); simp; omega

theorem ahead_len_le : ∀ (f : Nat) (l : List UInt8), (ahead f l).length ≤ f
  | 0, l => by simp [ahead]
  | f + 1, [] => by simp [ahead]
  | f + 1, x :: l => by
    simp only [ahead]; split
    · simp
    · have := ahead_len_le f l; simp; omega

theorem ahead_len_le' : ∀ (f : Nat) (l : List UInt8), (ahead f l).length ≤ l.length
  | 0, l => by simp [ahead]
  | f + 1, [] => by simp [ahead]
  | f + 1, x :: l => by
    simp only [ahead]; split
    · simp
    · have := ahead_len_le' f l; simp; omega

theorem val_lt : ∀ (l : List UInt8), val l < 128 ^ l.length
  | [] => by simp [val]
  | x :: l => by
    have := val_lt l
    have h2 : x.toNat % 128 < 128 := Nat.mod_lt _ (by decide)
    simp only [val, List.length_cons, Nat.pow_succ]
    omega

theorem val_append (l m : List UInt8) : val (l ++ m) = val l + 128 ^ l.length * val m := by
  induction l with
  | nil => simp [val]
  | cons x l ih =>
    simp only [List.cons_append, val, ih, List.length_cons, Nat.pow_succ, Nat.mul_add]
    have : 128 * (128 ^ l.length * val m) = 128 ^ l.length * 128 * val m := by
      rw [Nat.mul_comm (128 ^ l.length) 128, Nat.mul_assoc]
    omega

end Go.Proofs.Ytglhjgfaelfleab
