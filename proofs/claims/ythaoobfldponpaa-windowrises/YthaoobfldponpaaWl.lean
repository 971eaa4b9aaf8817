/-
  WindowRises: the walk of the law.
-/
import Derived.Test.YthaoobfldponpaaFi
import Derived.Test.YthaoobfldponpaaOp
namespace Go.Proofs.Ythaoobfldponpaa
open Go.RowKit
set_option linter.unusedVariables false

/-- The numbers rise. -/
def Rises (l : List Int) : Prop := ∀ i, i + 1 < l.length → l[i]?.getD 0 < l[i + 1]?.getD 0
theorem rises_iff (l : List Int) : Rises l ↔ l.Pairwise (· < ·) := by
  constructor
  · intro h
    induction l with
    | nil => exact List.Pairwise.nil
    | cons x t ih =>
      have h2 : Rises t := fun i hi => by simpa using h (i + 1) (by simpa using hi)
      have hp := ih h2
      refine List.pairwise_cons.2 ⟨?_, hp⟩
      intro y hy
      cases t with
      | nil => simp at hy
      | cons z u =>
        have hxz : x < z := by simpa using h 0 (by simp)
        rcases List.mem_cons.1 hy with e | hy'
        · rw [e]; exact hxz
        · have := (List.pairwise_cons.1 hp).1 y hy'; omega
  · intro h i hi
    have := List.pairwise_iff_getElem.1 h i (i + 1) (by omega) hi (by omega)
    rw [List.getElem?_eq_getElem (by omega), List.getElem?_eq_getElem hi]
    simpa using this

theorem rises_add {room : Nat} {l : List Int} {n : Int} (h : l.Pairwise (· < ·)) : (addL room l n).Pairwise (· < ·) := by
  unfold addL putL
  split
  · rename_i ha
    split
    · rw [List.pairwise_append]
      refine ⟨h, by simp, ?_⟩
      intro x hx y hy
      simp at hy
      subst hy
      cases hl : l.getLast? with
      | none => rw [List.getLast?_eq_none_iff] at hl; subst hl; simp at hx
      | some z =>
        simp [above, hl] at ha
        obtain ⟨t, rfl⟩ := List.getLast?_eq_some_iff.1 hl
        rcases List.mem_append.1 hx with hx | hx
        · have := (List.pairwise_append.1 h).2.2 x hx z (by simp); omega
        · simp at hx; omega
    · exact h
  · exact h
theorem free_sub (l : List Int) (n : Int) : (freeL l n).Sublist l := List.dropWhile_sublist _
theorem rises_free {l : List Int} {n : Int} (h : l.Pairwise (· < ·)) : (freeL l n).Pairwise (· < ·) ∧ ∀ x ∈ freeL l n, n < x := by
  refine ⟨h.sublist (free_sub l n), ?_⟩
  induction l with
  | nil => intro x hx; simp [freeL] at hx
  | cons y t ih =>
    obtain ⟨h1, h2⟩ := List.pairwise_cons.1 h
    unfold freeL at *
    by_cases hy : y ≤ n
    · rw [List.dropWhile_cons_of_pos (by simpa using hy)]
      exact ih h2
    · rw [List.dropWhile_cons_of_neg (by simpa using hy)]
      intro x hx
      rcases List.mem_cons.1 hx with e | hx'
      · omega
      · have := h1 x hx'; omega
theorem free_twice {l : List Int} {n : Int} (h : ∀ x ∈ l, n < x) : freeL l n = l := by
  unfold freeL
  cases l with
  | nil => rfl
  | cons y t => exact List.dropWhile_cons_of_neg (by have := h y (by simp); simpa using this)

/-- What the law asks of each number that is in. -/
theorem ask {l : List Int} (h : l.Pairwise (· < ·)) {k : Nat} (hk : k < l.length) (h0 : k ≠ 0) : decide (l[k]?.getD 0 ≤ l[k - 1]?.getD 0) = false := by
  have := (rises_iff l).2 h (k - 1) (by omega)
  rw [show k - 1 + 1 = k from by omega] at this
  simpa using this
theorem ask2 {l : List Int} {n : Int} (h : ∀ x ∈ l, n < x) {k : Nat} (hk : k < l.length) : decide (l[k]?.getD 0 ≤ n) = false := by
  have := h (l[k]) (List.getElem_mem _)
  rw [List.getElem?_eq_getElem hk]
  simpa using this

end Go.Proofs.Ythaoobfldponpaa
