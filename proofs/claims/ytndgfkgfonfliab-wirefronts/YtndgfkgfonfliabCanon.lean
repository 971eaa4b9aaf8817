/-
  What is read as a number, written again, is just those bytes; its fronts are none.
-/
import Derived.Test.YtndgfkgfonfliabForm
namespace Go.Proofs.Ytndgfkgfonfliab

/-- All bytes but the last have 80 (hex) added; the last has not. -/
def Good : List UInt8 → Prop
  | [] => False
  | [x] => x.toNat < 128
  | x :: y :: l => 128 ≤ x.toNat ∧ Good (y :: l)

theorem ahead_good : ∀ (f : Nat) (l : List UInt8), ahead f l ≠ [] → lastB (ahead f l) < 128 → Good (ahead f l)
  | 0, l, h, _ => by simp [ahead] at h
  | f + 1, [], h, _ => by simp [ahead] at h
  | f + 1, x :: l, h, hl => by
    by_cases hx : x.toNat < 128
    · simp only [ahead, hx, if_true, Good]
    · simp only [ahead, hx, if_false] at hl ⊢
      cases hq : ahead f l with
      | nil => rw [hq] at hl; simp only [lastB, List.getLastD_cons, List.getLastD_nil] at hl; omega
      | cons y q =>
        rw [hq] at hl
        rw [lastB_cons _ _ (by simp)] at hl
        have := ahead_good f l (by rw [hq]; simp) (by rw [hq]; exact hl)
        rw [hq] at this
        exact ⟨by omega, this⟩

theorem ahead_front : ∀ (f : Nat) (l : List UInt8), ahead f l = l.take (ahead f l).length
  | 0, l => by simp [ahead]
  | f + 1, [] => by simp [ahead]
  | f + 1, x :: l => by
    by_cases hx : x.toNat < 128
    · simp [ahead, hx]
    · have := ahead_front f l
      simp only [ahead, hx, if_false, List.length_cons, List.take_succ_cons]
      exact congrArg (x :: ·) this

theorem Good.val_pos : ∀ {p : List UInt8}, Good p → lastB p ≠ 0 → 0 < val p
  | [], h, _ => h.elim
  | [x], h, hl => by
    simp only [lastB, List.getLastD_cons, List.getLastD_nil] at hl
    simp only [Good] at h
    simp only [val]; omega
  | x :: y :: l, h, hl => by
    rw [lastB_cons _ _ (by simp)] at hl
    have := Good.val_pos h.2 hl
    simp only [val] at this ⊢; omega

theorem Good.canon : ∀ {p : List UInt8} (f : Nat), Good p → (1 < p.length → lastB p ≠ 0) → p.length ≤ f + 1 → num f (val p) = p
  | [], _, h, _, _ => h.elim
  | [x], f, h, _, _ => by
    simp only [Good] at h
    have e : val [x] = x.toNat := by simp only [val]; omega
    rw [e, num_lt h]; simp
  | x :: y :: l, 0, h, _, hf => by simp at hf
  | x :: y :: l, f + 1, h, hl, hf => by
    have hl' := hl (by simp)
    rw [lastB_cons _ _ (by simp)] at hl'
    have hp := Good.val_pos h.2 hl'
    have ih := Good.canon f h.2 (fun _ => hl') (by simpa using hf)
    have hx := h.1
    have hx2 := x.toNat_lt
    have e : val (x :: y :: l) = x.toNat % 128 + 128 * val (y :: l) := rfl
    rw [e, num_ge (by omega)]
    have e1 : (x.toNat % 128 + 128 * val (y :: l)) / 128 = val (y :: l) := by omega
    have e2 : (x.toNat % 128 + 128 * val (y :: l)) % 128 + 128 = x.toNat := by omega
    rw [e1, e2, ih]; simp

theorem Good.hi : ∀ {p : List UInt8}, Good p → ∀ j, j + 1 < p.length → 128 ≤ (byteAt p j).toNat
  | [], h, _, _ => h.elim
  | [x], _, j, hj => by simp at hj
  | x :: y :: l, h, 0, _ => by simpa [byteAt] using h.1
  | x :: y :: l, h, j + 1, hj => by
    have := Good.hi h.2 j (by simpa using hj)
    simpa [byteAt] using this

theorem verdict_ok (p : List UInt8) (h : (verdict p).2.2 = 0) : verdict p = (val p, p.length, 0) ∧ lastB p < 128 ∧ (1 < p.length → lastB p ≠ 0) ∧ val p ≤ 4611686018427387904 := by
  unfold verdict at h ⊢
  split at h
  · simp at h
  · split at h
    · simp at h
    · split at h
      · simp at h
      · split at h
        · simp at h
        · rename_i h1 h2 h3 h4
          rw [if_neg h1, if_neg h2, if_neg h3, if_neg h4]
          exact ⟨rfl, by omega, fun hp hz => h3 ⟨hz, hp⟩, by omega⟩

/-- The whole of it. -/
theorem intAt_fronts (l : List UInt8) (i : Int) (h : (intAt l i).2.2 = 0) :
    ∃ a k n : Nat, i = (a : Int) ∧ intAt l i = (n, k, 0) ∧ 1 ≤ k ∧ k ≤ 9 ∧ a + k ≤ l.length ∧ n ≤ 4611686018427387904 ∧ numB n = (l.drop a).take k ∧ intAt (l.take (a + k - 1)) (a : Int) = (0, 0, 2) := by
  by_cases hi : i < 0 ∨ (l.length : Int) ≤ i
  · rw [intAt_off l i hi] at h; simp at h
  · obtain ⟨a, rfl⟩ := Int.eq_ofNat_of_zero_le (show 0 ≤ i by omega)
    have e : intAt l (a : Int) = verdict (ahead 9 (l.drop a)) := by
      unfold intAt; rw [if_neg hi]; simp only [Int.toNat_natCast]
    rw [e] at h ⊢
    obtain ⟨h1, h2, h3, h4⟩ := verdict_ok _ h
    have hal : a < l.length := by omega
    have hne : ahead 9 (l.drop a) ≠ [] := by
      rw [drop_consB l a hal]
      simp only [ahead]; split <;> simp
    have hg := ahead_good 9 (l.drop a) hne h2
    have hfr := ahead_front 9 (l.drop a)
    have h9 := ahead_len_le 9 (l.drop a)
    have hll := ahead_len_le' 9 (l.drop a)
    have hpos : 0 < (ahead 9 (l.drop a)).length := List.length_pos_iff.2 hne
    have hhi := hg.hi
    have hc := hg.canon 9 h3 (by omega)
    generalize ahead 9 (l.drop a) = p at *
    simp only [List.length_drop] at hll
    refine ⟨a, p.length, val p, rfl, h1, hpos, h9, by omega, h4, ?_, ?_⟩
    · rw [← hfr]; exact hc
    · by_cases hk : p.length = 1
      · apply intAt_off
        right
        simp; omega
      · refine verdict_short _ a (p.length - 1) (by omega) (by simp; omega) (by simp; omega) (fun j hj => ?_)
        have hb := hhi j (by omega)
        rw [hfr, byteAt_take _ _ _ (by omega), byteAt_drop] at hb
        rw [byteAt_take _ _ _ (by omega)]
        exact hb
end Go.Proofs.Ytndgfkgfonfliab
