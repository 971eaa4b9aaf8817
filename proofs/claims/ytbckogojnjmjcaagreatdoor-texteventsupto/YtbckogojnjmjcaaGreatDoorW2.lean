/-
  What a quoted word holds: the document's.
-/
import Derived.Test.YtbckogojnjmjcaaGreatDoorW1
namespace Go.Proofs.YtbckogojnjmjcaaGreatDoor
open Go.RowKit Go.Shelf

/-- What stands behind a quoted word's beginning is none. -/
def NoQ (s : Bs) : Prop := ∀ h r, s ≠ flat h ++ 34 :: r
theorem noq_cases {c : UInt8} {q : Bs} (h34 : c ≠ 34) (h : ∀ e p, c :: q ≠ spell e ++ p) : NoQ (c :: q) := by
  intro g r e
  cases g with
  | nil => simp only [flat_nil, List.nil_append, List.cons.injEq] at e; exact h34 e.1
  | cons d g => rw [flat_cons, List.append_assoc] at e; exact h d _ e
theorem noq_nil : NoQ [] := by
  intro g r e
  cases g with
  | nil => cases e
  | cons d g =>
    rw [flat_cons, List.append_assoc] at e
    have := congrArg List.length e
    simp at this
theorem noq_front {done s : Bs} (h : NoQ s) : NoQ (flat done ++ s) := by
  intro g r e
  obtain ⟨g', -, h2⟩ := flat_cut done e
  exact h g' r h2
theorem noq_step {e : UInt8} {s : Bs} (h : NoQ s) : NoQ (spell e ++ s) := by
  have := noq_front (done := [e]) h
  simpa [flat] using this
theorem plain_spell {c : UInt8} (h : plainB c = true) : spell c = [c] := by
  unfold plainB at h
  simp only [Bool.and_eq_true, decide_eq_true_eq] at h
  unfold spell
  rw [if_neg (by omega), if_pos (by omega)]
theorem not_plain {c : UInt8} (h : plainB c = false) (h34 : c ≠ 34) (h92 : c ≠ 92) (q : Bs) : NoQ (c :: q) := by
  refine noq_cases h34 fun e p he => ?_
  unfold plainB at h
  rcases spell_cases e with ⟨h1, e1⟩ | ⟨a1, b1, n1, m1, e1⟩ | ⟨h1, e1⟩ <;> rw [e1] at he <;> simp only [List.cons_append, List.nil_append, List.cons.injEq] at he
  · exact h92 he.1
  · rw [← he.1] at a1 b1
    have n34 : c.toNat ≠ 34 := fun x => h34 (u8_eq x)
    have n92 : c.toNat ≠ 92 := fun x => h92 (u8_eq x)
    simp [a1, b1, n34, n92] at h
  · exact h92 he.1
theorem slash_end : NoQ [92] := by
  refine noq_cases (by decide) fun e p he => ?_
  rcases spell_cases e with ⟨h1, e1⟩ | ⟨a1, b1, n1, m1, e1⟩ | ⟨h1, e1⟩ <;> rw [e1] at he <;> simp only [List.cons_append, List.nil_append, List.cons.injEq] at he
  · simp at he
  · exact m1 he.1.symm
  · simp at he
theorem slash_self {d : UInt8} (h : d = 34 ∨ d = 92) : spell d = [92, d] := by
  rcases h with rfl | rfl <;> decide
theorem slash_noX {d : UInt8} {q : Bs} (h1 : d ≠ 34) (h2 : d ≠ 92) (h120 : d ≠ 120) : NoQ (92 :: d :: q) := by
  refine noq_cases (by decide) fun e p he => ?_
  rcases spell_cases e with ⟨k1, e1⟩ | ⟨a1, b1, n1, m1, e1⟩ | ⟨k1, e1⟩ <;> rw [e1] at he <;> simp only [List.cons_append, List.nil_append, List.cons.injEq] at he
  · rcases k1 with rfl | rfl
    · exact h1 he.2.1
    · exact h2 he.2.1
  · exact m1 he.1.symm
  · exact h120 he.2.1
theorem hex_noX {q : Bs} (h : ∀ e : UInt8, ∀ p, (e.toNat < 32 ∨ 126 < e.toNat) → q ≠ hexD (e.toNat / 16) :: hexD (e.toNat % 16) :: p) : NoQ (92 :: 120 :: q) := by
  refine noq_cases (by decide) fun e p he => ?_
  rcases spell_cases e with ⟨k1, e1⟩ | ⟨a1, b1, n1, m1, e1⟩ | ⟨k1, e1⟩ <;> rw [e1] at he <;> simp only [List.cons_append, List.nil_append, List.cons.injEq] at he
  · rcases k1 with rfl | rfl
    · exact absurd he.2.1 (by decide)
    · exact absurd he.2.1 (by decide)
  · exact m1 he.1.symm
  · exact h e p k1 he.2.2
theorem valD_some {c : UInt8} (h : 0 ≤ valD c) : hexD (valD c).toNat = c ∧ (valD c).toNat < 16 := by
  have hr := valI_range c 16 (by omega)
  unfold valD at *
  refine ⟨valI_some (by omega), by omega⟩
theorem valD_none {c : UInt8} (h : valD c < 0) (i : Nat) (hi : i < 16) : hexD i ≠ c := by
  intro e
  have := valD_hex ⟨i, hi⟩
  rw [← e, this] at h
  simp at h
  omega
/-- Two digits that say a byte that may not be spelt so, or none. -/
theorem hex_bad {x y : UInt8} {q : Bs} (h : valD x < 0 ∨ valD y < 0 ∨ (32 ≤ 16 * (valD x).toNat + (valD y).toNat ∧ 16 * (valD x).toNat + (valD y).toNat ≤ 126)) : NoQ (92 :: 120 :: x :: y :: q) := by
  refine hex_noX fun e p he hq => ?_
  have hl := e.toNat_lt
  simp only [List.cons.injEq] at hq
  obtain ⟨h1, h2, -⟩ := hq
  rcases h with h | h | h
  · exact valD_none h (e.toNat / 16) (by omega) h1.symm
  · exact valD_none h (e.toNat % 16) (by omega) h2.symm
  · have v1 := valD_hex ⟨e.toNat / 16, by omega⟩
    have v2 := valD_hex ⟨e.toNat % 16, by omega⟩
    simp only at v1 v2
    rw [← h1] at v1
    rw [← h2] at v2
    rw [v1, v2] at h
    simp at h
    omega
theorem hex_good {x y : UInt8} (hx : 0 ≤ valD x) (hy : 0 ≤ valD y) (h : ¬ (32 ≤ 16 * (valD x).toNat + (valD y).toNat ∧ 16 * (valD x).toNat + (valD y).toNat ≤ 126)) : spell (UInt8.ofNat (16 * (valD x).toNat + (valD y).toNat)) = [92, 120, x, y] := by
  obtain ⟨e1, l1⟩ := valD_some hx
  obtain ⟨e2, l2⟩ := valD_some hy
  have hn : (UInt8.ofNat (16 * (valD x).toNat + (valD y).toNat)).toNat = 16 * (valD x).toNat + (valD y).toNat := by simp; omega
  unfold spell
  rw [hn, if_neg (by omega), if_neg h]
  have d1 : (16 * (valD x).toNat + (valD y).toNat) / 16 = (valD x).toNat := by omega
  have d2 : (16 * (valD x).toNat + (valD y).toNat) % 16 = (valD y).toNat := by omega
  rw [d1, d2, e1, e2]
theorem hex_short {q : Bs} (h : q.length < 2) : NoQ (92 :: 120 :: q) := by
  refine hex_noX fun e p he hq => ?_
  rw [hq] at h
  simp only [List.length_cons] at h
  omega
end Go.Proofs.YtbckogojnjmjcaaGreatDoor
