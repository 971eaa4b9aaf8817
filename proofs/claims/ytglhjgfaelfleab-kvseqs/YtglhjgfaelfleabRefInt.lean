/-
  What the document's own Int answers, at any place of any bytes.
-/
import Derived.Test.YtglhjgfaelfleabRef
namespace Go.Proofs.Ytglhjgfaelfleab
open Go.RowKit

/-- The answer of three numbers, as the program hands it back. -/
def tup3 (r : Nat × Nat × Nat) : Value := .tuple #[.int .i64 (r.1 : Int), .int .i64 (r.2.1 : Int), .int .i64 (r.2.2 : Int)]

def byteAt (l : List UInt8) (i : Nat) : UInt8 := l[i]?.getD 0

theorem ahead_go : ∀ (k f : Nat) (p : List UInt8), k ≤ f → k ≤ p.length → (∀ j, j < k → 128 ≤ (byteAt p j).toNat) → ahead f p = p.take k ++ ahead (f - k) (p.drop k)
  | 0, f, p, _, _, _ => by simp
  | k + 1, 0, p, h, _, _ => by omega
  | k + 1, f + 1, [], _, h, _ => by simp at h
  | k + 1, f + 1, x :: p, h1, h2, h3 => by
    have h0 := h3 0 (by omega)
    simp [byteAt] at h0
    have := ahead_go k f p (by omega) (by simpa using h2) (fun j hj => by have := h3 (j + 1) (by omega); simpa [byteAt] using this)
    simp [ahead, Nat.not_lt.2 h0, this]

theorem byteAt_drop (l : List UInt8) (a j : Nat) : byteAt (l.drop a) j = byteAt l (a + j) := by simp [byteAt]

theorem lastB_snoc (p : List UInt8) (x : UInt8) : lastB (p ++ [x]) = x.toNat := by simp [lastB]

theorem take_snocB (l : List UInt8) (k : Nat) (h : k < l.length) : l.take (k + 1) = l.take k ++ [byteAt l k] := by
  rw [List.take_succ_eq_append_getElem h]; simp [byteAt, h]

theorem drop_consB (l : List UInt8) (k : Nat) (h : k < l.length) : l.drop k = byteAt l k :: l.drop (k + 1) := by
  rw [List.drop_eq_getElem_cons h]; simp [byteAt, h]

/-- Nine bytes, none of which ends a number. -/
theorem verdict_nine (l : List UInt8) (a : Nat) (h : a + 9 ≤ l.length) (h3 : ∀ j, j < 9 → 128 ≤ (byteAt l (a + j)).toNat) : intAt l a = (0, 0, 4) := by
  have e := ahead_go 9 9 (l.drop a) (by omega) (by simp; omega) (fun j hj => by rw [byteAt_drop]; exact h3 j hj)
  simp [ahead] at e
  have hl : lastB (ahead 9 (l.drop a)) = (byteAt l (a + 8)).toNat := by
    rw [e, take_snocB _ 8 (by simp; omega), lastB_snoc, byteAt_drop]
  have h8 := h3 8 (by omega)
  have hlen : (ahead 9 (l.drop a)).length = 9 := by rw [e]; simp; omega
  unfold intAt
  rw [if_neg (by omega)]
  simp only [Int.toNat_natCast]
  unfold verdict
  rw [if_neg (by omega), if_pos (by omega)]

/-- The bytes end within the number. -/
theorem verdict_short (l : List UInt8) (a k : Nat) (hk : k < 9) (h0 : a < l.length) (h : a + k = l.length) (h3 : ∀ j, j < k → 128 ≤ (byteAt l (a + j)).toNat) : intAt l a = (0, 0, 2) := by
  have e := ahead_go k 9 (l.drop a) (by omega) (by simp; omega) (fun j hj => by rw [byteAt_drop]; exact h3 j hj)
  have hd : (l.drop a).drop k = [] := by apply List.drop_eq_nil_of_le; simp; omega
  rw [hd] at e
  obtain ⟨k', rfl⟩ : ∃ k', k = k' + 1 := ⟨k - 1, by omega⟩
  have e2 : ahead 9 (l.drop a) = (l.drop a).take (k' + 1) := by
    rw [e]; cases hf : 9 - (k' + 1) <;> simp [ahead]
  have hl : lastB (ahead 9 (l.drop a)) = (byteAt l (a + k')).toNat := by
    rw [e2, take_snocB _ k' (by simp; omega), lastB_snoc, byteAt_drop]
  have h8 := h3 k' (by omega)
  have hlen : (ahead 9 (l.drop a)).length = k' + 1 := by rw [e2]; simp; omega
  unfold intAt
  rw [if_neg (by omega)]
  simp only [Int.toNat_natCast]
  unfold verdict
  rw [if_pos (by omega)]

/-- The bytes of the number are k and the one that ends it. -/
theorem ahead_end (l : List UInt8) (a k : Nat) (hk : k < 9) (h : a + k < l.length) (h3 : ∀ j, j < k → 128 ≤ (byteAt l (a + j)).toNat) (h4 : (byteAt l (a + k)).toNat < 128) :
    ahead 9 (l.drop a) = (l.drop a).take (k + 1) ∧ lastB (ahead 9 (l.drop a)) = (byteAt l (a + k)).toNat ∧ (ahead 9 (l.drop a)).length = k + 1 := by
  have e := ahead_go k 9 (l.drop a) (by omega) (by simp; omega) (fun j hj => by rw [byteAt_drop]; exact h3 j hj)
  obtain ⟨f, hf⟩ : ∃ f, 9 - k = f + 1 := ⟨8 - k, by omega⟩
  have hd : (l.drop a).drop k = byteAt l (a + k) :: (l.drop a).drop (k + 1) := by
    rw [drop_consB (l.drop a) k (by simp; omega), byteAt_drop]
  rw [hd, hf] at e
  have e2 : ahead 9 (l.drop a) = (l.drop a).take (k + 1) := by
    rw [e, take_snocB _ k (by simp; omega), byteAt_drop]; simp [ahead, h4]
  refine ⟨e2, ?_, ?_⟩
  · rw [e2, take_snocB _ k (by simp; omega), lastB_snoc, byteAt_drop]
  · rw [e2]; simp; omega

theorem verdict_zero (l : List UInt8) (a k : Nat) (hk : k < 9) (h : a + k < l.length) (h3 : ∀ j, j < k → 128 ≤ (byteAt l (a + j)).toNat) (h4 : (byteAt l (a + k)).toNat = 0) (h5 : 0 < k) : intAt l a = (0, 0, 4) := by
  obtain ⟨_, hl, hlen⟩ := ahead_end l a k hk h h3 (by omega)
  unfold intAt
  rw [if_neg (by omega)]
  simp only [Int.toNat_natCast]
  unfold verdict
  rw [if_neg (by omega), if_neg (by omega), if_pos (by omega)]

theorem verdict_num (l : List UInt8) (a k : Nat) (hk : k < 9) (h : a + k < l.length) (h3 : ∀ j, j < k → 128 ≤ (byteAt l (a + j)).toNat) (h4 : (byteAt l (a + k)).toNat < 128) (h5 : (byteAt l (a + k)).toNat = 0 → k = 0) :
    intAt l a = if 4611686018427387904 < val ((l.drop a).take (k + 1)) then (0, 0, 1) else (val ((l.drop a).take (k + 1)), k + 1, 0) := by
  obtain ⟨e, hl, hlen⟩ := ahead_end l a k hk h h3 h4
  unfold intAt
  rw [if_neg (by omega)]
  simp only [Int.toNat_natCast]
  unfold verdict
  rw [if_neg (by omega), if_neg (by omega), if_neg (by omega), hlen, e]

theorem intAt_off (l : List UInt8) (a : Int) (h : a < 0 ∨ (l.length : Int) ≤ a) : intAt l a = (0, 0, 2) := by
  unfold intAt; rw [if_pos h]

theorem val_dropB (l : List UInt8) (k : Nat) (h : k < l.length) : val (l.drop k) = (byteAt l k).toNat % 128 + 128 * val (l.drop (k + 1)) := by
  rw [drop_consB l k h]; rfl

theorem byteAt_take (l : List UInt8) (k j : Nat) (h : j < k) : byteAt (l.take k) j = byteAt l j := by
  simp [byteAt, h]

theorem Sl.cellAt {N : Nat} {w : World} {a : Option Addr} {l : List UInt8} (g : l = [] ∨ ∃ b off, a = some ⟨b, off, none⟩ ∧ b < N ∧ ∀ i, i < l.length → w.cell? ⟨b, off + i, none⟩ = some (encB (l[i]?.getD 0))) (h : 0 < l.length) :
    ∃ b off, a = some ⟨b, off, none⟩ ∧ b < N ∧ ∀ i, i < l.length → w.cell? ⟨b, off + i, none⟩ = some (.int .u8 ((byteAt l i).toNat : Int)) := by
  rcases g with rfl | ⟨b, off, h1, h2, h3⟩
  · simp at h
  · exact ⟨b, off, h1, h2, h3⟩

end Go.Proofs.Ytglhjgfaelfleab
