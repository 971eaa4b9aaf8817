/-
  The plain mathematics of the frames: the sum, four bytes, a frame, the frame at a place, all frames, joined frames. No program is named here.
-/
import Derived.Below
namespace Go.Proofs.Ythhnjiodfbckcaa

def poly : BitVec 32 := 0x82f63b78#32

/-- A bit falls out of the sum. -/
def sh (c : BitVec 32) : BitVec 32 := (c >>> 1) ^^^ (if c.getLsbD 0 then poly else 0#32)

def shN : Nat → BitVec 32 → BitVec 32
  | 0, c => c
  | n + 1, c => shN n (sh c)

def crcStep (c : BitVec 32) (x : UInt8) : BitVec 32 := shN 8 (c ^^^ BitVec.ofNat 32 x.toNat)

def crcRun (c : BitVec 32) (l : List UInt8) : BitVec 32 := l.foldl crcStep c

def crcB (l : List UInt8) : BitVec 32 := ~~~ (crcRun (BitVec.allOnes 32) l)

/-- The sum of bytes. -/
def crc (l : List UInt8) : Nat := (crcB l).toNat

theorem crc_lt (l : List UInt8) : crc l < 4294967296 := (crcB l).isLt

theorem sh_inj {c d : BitVec 32} (h : sh c = sh d) : c = d := by
  have key : ∀ x : BitVec 32, (sh x).getLsbD 31 = x.getLsbD 0 := by
    intro x
    unfold sh
    cases hx : x.getLsbD 0 <;> simp [poly]
  have h0 : c.getLsbD 0 = d.getLsbD 0 := by rw [← key c, ← key d, h]
  have h1 : c >>> 1 = d >>> 1 := by
    unfold sh at h
    rw [h0] at h
    have := congrArg (· ^^^ (if d.getLsbD 0 then poly else 0#32)) h
    simpa [BitVec.xor_assoc] using this
  apply BitVec.eq_of_getLsbD_eq
  intro i hi
  cases i with
  | zero => exact h0
  | succ i =>
    have := congrArg (fun x => BitVec.getLsbD x i) h1
    simpa [Nat.add_comm] using this

theorem shN_inj : ∀ (n : Nat) {c d : BitVec 32}, shN n c = shN n d → c = d
  | 0, _, _, h => h
  | n + 1, _, _, h => sh_inj (shN_inj n h)

theorem xor_cancel {a b x : BitVec 32} (h : a ^^^ x = b ^^^ x) : a = b := by
  have := congrArg (· ^^^ x) h
  simpa [BitVec.xor_assoc] using this

theorem crcStep_inj {c d : BitVec 32} {x : UInt8} (h : crcStep c x = crcStep d x) : c = d := xor_cancel (shN_inj 8 h)

theorem crcRun_inj : ∀ (l : List UInt8) {c d : BitVec 32}, crcRun c l = crcRun d l → c = d
  | [], _, _, h => h
  | _ :: l, _, _, h => crcStep_inj (crcRun_inj l h)

theorem crcStep_byte {c : BitVec 32} {x y : UInt8} (h : crcStep c x = crcStep c y) : x = y := by
  have h1 := shN_inj 8 h
  rw [BitVec.xor_comm c, BitVec.xor_comm c] at h1
  have h2 := congrArg BitVec.toNat (xor_cancel h1)
  simp only [BitVec.toNat_ofNat] at h2
  have hx := x.toNat_lt
  have hy := y.toNat_lt
  apply UInt8.toNat_inj.1
  omega

theorem crcRun_append (c : BitVec 32) (l m : List UInt8) : crcRun c (l ++ m) = crcRun (crcRun c l) m := by simp [crcRun]

/-- One byte is another one: so is the sum. -/
theorem crc_spoilt (l m : List UInt8) {x y : UInt8} (h : x ≠ y) : crc (l ++ x :: m) ≠ crc (l ++ y :: m) := by
  intro e
  have e1 := BitVec.eq_of_toNat_eq e
  have e2 : crcRun (BitVec.allOnes 32) (l ++ x :: m) = crcRun (BitVec.allOnes 32) (l ++ y :: m) := by
    have := congrArg (fun b => ~~~ b) e1
    simpa [crcB] using this
  rw [crcRun_append, crcRun_append] at e2
  exact h (crcStep_byte (crcRun_inj m e2))

theorem crc_nine : crc [49, 50, 51, 52, 53, 54, 55, 56, 57] = 3808858755 := by decide +kernel
theorem crc_zeros : crc [0, 0, 0, 0] = 1214729159 := by decide +kernel
theorem crc_none : crc [] = 0 := by decide +kernel

/-- Four bytes of a number, the low one first. -/
def le4 (n : Nat) : List UInt8 := [UInt8.ofNat n, UInt8.ofNat (n / 256), UInt8.ofNat (n / 65536), UInt8.ofNat (n / 16777216)]

def at0 (b : List UInt8) (i : Nat) : Nat := (b[i]?.getD 0).toNat

/-- The number that four bytes say. -/
def word4 (b : List UInt8) : Nat := at0 b 0 + 256 * at0 b 1 + 65536 * at0 b 2 + 16777216 * at0 b 3

theorem le4_len (n : Nat) : (le4 n).length = 4 := rfl

theorem at0_lt (b : List UInt8) (i : Nat) : at0 b i < 256 := UInt8.toNat_lt _

theorem word4_lt (b : List UInt8) : word4 b < 4294967296 := by
  have h0 := at0_lt b 0
  have h1 := at0_lt b 1
  have h2 := at0_lt b 2
  have h3 := at0_lt b 3
  unfold word4; omega

theorem word4_le4 (n : Nat) (h : n < 4294967296) (m : List UInt8) : word4 (le4 n ++ m) = n := by
  simp [word4, le4, at0]; omega

theorem le4_word4 (b : List UInt8) (h : b.length = 4) : le4 (word4 b) = b := by
  match b, h with
  | [x, y, z, t], _ =>
    have hx := x.toNat_lt; have hy := y.toNat_lt; have hz := z.toNat_lt; have ht := t.toNat_lt
    simp only [le4, word4, at0, List.getElem?_cons_zero, List.getElem?_cons_succ, Option.getD_some]
    have e : ∀ (u : UInt8) (k : Nat), k % 256 = u.toNat → UInt8.ofNat k = u := by
      intro u k hk; apply UInt8.toNat_inj.1; simp [hk]
    rw [e x _ (by omega), e y _ (by omega), e z _ (by omega), e t _ (by omega)]

theorem word4_inj {b c : List UInt8} (hb : b.length = 4) (hc : c.length = 4) (h : word4 b = word4 c) : b = c := by
  rw [← le4_word4 b hb, ← le4_word4 c hc, h]

/-- A payload's frame. -/
def frameB (p : List UInt8) : List UInt8 := le4 p.length ++ (le4 (crc (le4 p.length ++ p)) ++ p)

theorem frameB_len (p : List UInt8) : (frameB p).length = 8 + p.length := by simp [frameB, le4_len]; omega

/-- The frame that rest begins with: its payload, how many bytes it has, the error. -/
def getFront (rest : List UInt8) : List UInt8 × Nat × Nat :=
  if rest.length < 4 then ([], 0, 2)
  else if 1048576 < word4 rest then ([], 0, 3)
  else if rest.length < 8 + word4 rest then ([], 0, 2)
  else if word4 (rest.drop 4) ≠ crc (rest.take 4 ++ (rest.drop 8).take (word4 rest)) then ([], 0, 5)
  else ((rest.drop 8).take (word4 rest), 8 + word4 rest, 0)
end Go.Proofs.Ythhnjiodfbckcaa
