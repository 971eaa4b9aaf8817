/-
  What a writer has behind the first k puts, and that a reader finds it again.
-/
import Derived.Test.YtglhjgfaelfleabPuts
import Derived.Test.YtglhjgfaelfleabForm
namespace Go.Proofs.Ytglhjgfaelfleab
open Go.RowKit Go.Shelf

/-- One put. -/
def stepP (s : List UInt8 × Nat) (d : PutD) : List UInt8 × Nat :=
  if d.kind = 0 then wInt s.1 s.2 d.n
  else if d.kind = 1 then wInt s.1 s.2 (if d.t then 1 else 0)
  else if d.kind = 2 then wBytes s.1 s.2 d.bs d.most
  else if d.kind = 3 then wBytes s.1 s.2 d.bs d.most
  else s

/-- The first k puts. -/
def told (D : Nat → PutD) : Nat → List UInt8 × Nat
  | 0 => ([], 0)
  | k + 1 => stepP (told D k) (D k)

theorem wBytes_len (l : List UInt8) (e : Nat) (m : List UInt8) (most : Int) : (wBytes l e m most).1.length ≤ l.length + 10 + m.length := by
  have := num_len_le 9 m.length
  unfold wBytes
  split
  · simp; omega
  · split
    · simp
    · simp [numB]; omega

theorem stepP_len (s : List UInt8 × Nat) (d : PutD) : (stepP s d).1.length ≤ s.1.length + 10 + d.bs.length := by
  unfold stepP
  split
  · have := wInt_len s.1 s.2 d.n; omega
  · split
    · have := wInt_len s.1 s.2 (if d.t then 1 else 0); omega
    · split
      · exact wBytes_len _ _ _ _
      · split
        · exact wBytes_len _ _ _ _
        · omega

theorem told_len (D : Nat → PutD) : ∀ k, (told D k).1.length ≤ 10 * k + total D k
  | 0 => by simp [told]
  | k + 1 => by
    have h1 := told_len D k
    have h2 := stepP_len (told D k) (D k)
    simp only [told, total]; omega

theorem total_mono (D : Nat → PutD) : ∀ {k n}, k ≤ n → total D k ≤ total D n
  | k, 0, h => by have : k = 0 := by omega
                  subst this; exact Nat.le_refl _
  | k, n + 1, h => by
    by_cases e : k = n + 1
    · subst e; exact Nat.le_refl _
    · have := total_mono D (show k ≤ n by omega); simp only [total]; omega

theorem total_one (D : Nat → PutD) {k n : Nat} (h : k < n) : (D k).bs.length ≤ total D n := by
  have := total_mono D (show k + 1 ≤ n from h)
  simp only [total] at this; omega

/-- An error stays, and nothing is had behind it. -/
theorem stepP_err (s : List UInt8 × Nat) (d : PutD) (h : s.2 ≠ 0 → s.1 = []) : ((stepP s d).2 ≠ 0 → (stepP s d).1 = []) ∧ ((stepP s d).2 = 0 → s.2 = 0) := by
  have hw : ∀ n, ((wInt s.1 s.2 n).2 ≠ 0 → (wInt s.1 s.2 n).1 = []) ∧ ((wInt s.1 s.2 n).2 = 0 → s.2 = 0) := by
    intro n; unfold wInt
    by_cases he : s.2 = 0
    · rw [if_neg (by simpa using he)]; split <;> simp [he]
    · rw [if_pos he]; exact ⟨h, fun h => h⟩
  have hb : ∀ m most, ((wBytes s.1 s.2 m most).2 ≠ 0 → (wBytes s.1 s.2 m most).1 = []) ∧ ((wBytes s.1 s.2 m most).2 = 0 → s.2 = 0) := by
    intro m most; unfold wBytes
    by_cases he : s.2 = 0
    · rw [if_neg (by simpa using he)]; split <;> simp [he]
    · rw [if_pos he]; exact ⟨h, fun h => h⟩
  unfold stepP
  split
  · exact hw _
  · split
    · exact hw _
    · split
      · exact hb _ _
      · split
        · exact hb _ _
        · exact ⟨h, fun h => h⟩

theorem told_err (D : Nat → PutD) : ∀ k, (told D k).2 ≠ 0 → (told D k).1 = []
  | 0 => by simp [told]
  | k + 1 => (stepP_err (told D k) (D k) (told_err D k)).1

theorem told_ok (D : Nat → PutD) : ∀ {k n}, k ≤ n → (told D n).2 = 0 → (told D k).2 = 0
  | k, 0, h, h0 => by have : k = 0 := by omega
                      subst this; exact h0
  | k, n + 1, h, h0 => by
    by_cases e : k = n + 1
    · subst e; exact h0
    · exact told_ok D (show k ≤ n by omega) ((stepP_err (told D n) (D n) (told_err D n)).2 h0)

/-- The bytes of one put that has no error. -/
def encP (d : PutD) : List UInt8 :=
  if d.kind = 0 then numB d.n.toNat
  else if d.kind = 1 then numB (if d.t then 1 else 0)
  else if d.kind = 2 ∨ d.kind = 3 then numB d.bs.length ++ d.bs
  else []

/-- What a put without an error is. -/
theorem stepP_ok (s : List UInt8 × Nat) (d : PutD) (h : (stepP s d).2 = 0) (hs : s.2 = 0) :
    (stepP s d).1 = s.1 ++ encP d ∧ (d.kind = 0 → isNumB d.n = true) ∧ (d.kind = 2 ∨ d.kind = 3 → (d.bs.length : Int) ≤ max d.most 0) := by
  unfold stepP at h ⊢
  unfold encP
  by_cases k0 : d.kind = 0
  · rw [if_pos k0] at h ⊢
    rw [if_pos k0]
    unfold wInt at h ⊢
    rw [if_neg (by simpa using hs)] at h ⊢
    by_cases hN : isNumB d.n = true
    · rw [if_pos hN] at h ⊢
      exact ⟨rfl, fun _ => hN, fun h => by omega⟩
    · rw [if_neg hN] at h; simp at h
  · rw [if_neg k0] at h ⊢
    rw [if_neg k0]
    by_cases k1 : d.kind = 1
    · rw [if_pos k1] at h ⊢
      rw [if_pos k1]
      unfold wInt at h ⊢
      rw [if_neg (by simpa using hs)] at h ⊢
      have hN : isNumB (if d.t then 1 else 0) = true := by cases d.t <;> decide
      rw [if_pos hN]
      refine ⟨?_, fun h => absurd h k0, fun h => by omega⟩
      cases d.t <;> rfl
    · rw [if_neg k1] at h ⊢
      rw [if_neg k1]
      have key : ∀ (hk : d.kind = 2 ∨ d.kind = 3), (wBytes s.1 s.2 d.bs d.most).2 = 0 → (wBytes s.1 s.2 d.bs d.most).1 = s.1 ++ (if d.kind = 2 ∨ d.kind = 3 then numB d.bs.length ++ d.bs else []) ∧ (d.bs.length : Int) ≤ max d.most 0 := by
        intro hk hh
        rw [if_pos hk]
        unfold wBytes at hh ⊢
        rw [if_neg (by simpa using hs)] at hh ⊢
        by_cases hb : max d.most 0 < (d.bs.length : Int)
        · rw [if_pos hb] at hh; simp at hh
        · rw [if_neg hb]; exact ⟨by simp, by omega⟩
      by_cases k2 : d.kind = 2
      · rw [if_pos k2] at h ⊢
        obtain ⟨h1, h2⟩ := key (.inl k2) h
        exact ⟨h1, fun h => absurd h k0, fun _ => h2⟩
      · rw [if_neg k2] at h ⊢
        by_cases k3 : d.kind = 3
        · rw [if_pos k3] at h ⊢
          obtain ⟨h1, h2⟩ := key (.inr k3) h
          exact ⟨h1, fun h => absurd h k0, fun _ => h2⟩
        · rw [if_neg k3] at h ⊢
          rw [if_neg (by omega)]
          exact ⟨by simp, fun h => absurd h k0, fun h => by omega⟩

/-- A number inside bytes. -/
theorem intAt_mid (pre : List UInt8) (n : Nat) (t : List UInt8) (h : n ≤ 4611686018427387904) : intAt (pre ++ (numB n ++ t)) (pre.length : Int) = (n, (numB n).length, 0) := by
  have h1 := intAt_num n t h
  have hp : 0 < (numB n).length := num_len_pos 9 n
  unfold intAt at h1 ⊢
  rw [if_neg (by simp; omega)] at h1
  rw [if_neg (by simp; omega)]
  simp only [Int.toNat_natCast, List.drop_zero] at h1 ⊢
  rw [List.drop_left]
  exact h1

theorem pk_mid (pre : List UInt8) (n : Nat) (t : List UInt8) (h : n ≤ 4611686018427387904) : pk (pre ++ (numB n ++ t)) pre.length 0 = (n, (numB n).length, 0) := intAt_mid pre n t h

theorem boolAt_mid (pre : List UInt8) (b : Bool) (t : List UInt8) : boolAt (pre ++ (numB (if b then 1 else 0) ++ t)) pre.length 0 = (b, pre.length + (numB (if b then 1 else 0)).length, 0) := by
  unfold boolAt
  rw [pk_mid pre _ t (by cases b <;> decide)]
  cases b <;> simp

theorem takeAt_mid (pre m t : List UInt8) (most : Int) (hm : m.length ≤ 1073741824) (hmost : (m.length : Int) ≤ max most 0) : takeAt (pre ++ (numB m.length ++ m ++ t)) pre.length 0 most = (m, pre.length + (numB m.length).length + m.length, 0) := by
  have hpk := pk_mid pre m.length (m ++ t) (by omega)
  rw [← List.append_assoc (numB m.length)] at hpk
  unfold takeAt
  rw [hpk]
  simp only [ne_eq, not_true, if_false]
  rw [if_neg (by omega), if_neg (by simp; omega)]
  have e : (pre ++ (numB m.length ++ m ++ t)).drop (pre.length + (numB m.length).length) = m ++ t := by
    rw [List.append_assoc (numB m.length), ← List.append_assoc pre, List.drop_left' (by simp)]
  rw [e, List.take_left]

/-- Bytes from outside lie apart from a writer's memory. -/
theorem apart_out {t : TypeId} {M N : Nat} {w : World} {B : Nat} {v x : Value} {l m : List UInt8} {e : Nat} (h : Wtr t N w B v l e) (hx : Sl M w x m) (hMN : M ≤ N) : m ≠ [] → x.ownBlock ≠ some B ∧ ∀ k, x.ownBlock = some k → v.ownBlock ≠ some k := by
  intro hm
  obtain ⟨a, cap, rfl, _, _, h3⟩ := hx
  obtain ⟨b, off, rfl, hb, _⟩ := h3.resolve_left hm
  have hle := h.le
  refine ⟨by simp [Value.ownBlock]; omega, fun k hk hv => ?_⟩
  simp [Value.ownBlock] at hk
  have := (World.ownsRow.lt h.ow k hv).1
  omega

theorem Tn.of_below {w w' : World} {B : Nat} {v : Value} (h : Below w.heap.size w w') : Tn w w' B v := Tn.of_grown (row := none) ⟨h.os, h.tape, h.output, h.size, fun k hk _ => h.block k hk⟩ (by simp)

end Go.Proofs.Ytglhjgfaelfleab
