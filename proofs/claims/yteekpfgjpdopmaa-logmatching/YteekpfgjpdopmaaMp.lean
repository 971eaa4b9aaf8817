/-
  Where two logs have an index with one term they have the same entries up to it: the plain argument.
-/
import Derived.Test.YteekpfgjpdopmaaTr
import Derived.Test.YteekpfgjpdopmaaEn
import Derived.Test.YteekpfgjpdopmaaAq
namespace Go.Proofs.Yteekpfgjpdopmaa
set_option linter.unusedVariables false

/-- Where both have an index with one term, they have the same entries up to it. -/
def MtE (A B : List En) : Prop := ∀ k, k < A.length → k < B.length → eT (A.getD k nilEn) = eT (B.getD k nilEn) → A.take (k + 1) = B.take (k + 1)

theorem MtE.refl (A : List En) : MtE A A := fun _ _ _ _ => rfl
theorem MtE.symm {A B : List En} (h : MtE A B) : MtE B A := fun k h1 h2 e => (h k h2 h1 e.symm).symm
theorem MtE.nil (B : List En) : MtE [] B := fun k h1 _ _ => by simp at h1
theorem getD_take {A : List En} {j k : Nat} (hk : k < j) : (A.take j).getD k nilEn = A.getD k nilEn := by
  simp only [List.getD_eq_getElem?_getD, List.getElem?_take, if_pos hk]
theorem MtE.take {A B : List En} (h : MtE A B) (j : Nat) : MtE (A.take j) B := fun k h1 h2 e => by
  have h3 : k < j ∧ k < A.length := by rw [List.length_take] at h1; omega
  rw [getD_take h3.1] at e
  rw [List.take_take, Nat.min_eq_left (by omega)]
  exact h k h3.2 h2 e
/-- The same up to an index, by its term. -/
theorem MtE.upto {A B : List En} (h : MtE A B) {n : Nat} (hA : n ≤ A.length) (hB : n ≤ B.length) (ht : n = 0 ∨ eT (A.getD (n - 1) nilEn) = eT (B.getD (n - 1) nilEn)) : A.take n = B.take n := by
  rcases ht with e | e
  · subst e; rfl
  · by_cases hn : n = 0
    · subst hn; rfl
    · have := h (n - 1) (by omega) (by omega) e
      rw [show n - 1 + 1 = n by omega] at this
      exact this
/-- A new entry of a term that nobody else has at that index. -/
theorem MtE.snoc {A B : List En} (h : MtE A B) (e : En) (hn : ∀ k, k = A.length → k < B.length → eT (B.getD k nilEn) ≠ eT e) : MtE (A ++ [e]) B := fun k h1 h2 ht => by
  simp only [List.length_append, List.length_singleton] at h1
  by_cases hk : k < A.length
  · have hg : (A ++ [e]).getD k nilEn = A.getD k nilEn := by
      simp only [List.getD_eq_getElem?_getD, List.getElem?_append_left hk]
    rw [hg] at ht
    rw [List.take_append_of_le_length (by omega)]
    exact h k hk h2 ht
  · have hk' : k = A.length := by omega
    have hg : (A ++ [e]).getD k nilEn = e := by subst hk'; simp [List.getD_eq_getElem?_getD]
    rw [hg] at ht
    exact absurd ht.symm (hn k hk' h2)

/-- A log that begins at nothing. -/
structure Zr (P : PL) : Prop where
  ok : P.Ok
  bi : P.bi = 0
  bt : P.bt = 0
  c : P.c = 0

theorem has_zr {P : PL} (h : Zr P) {i t : Int} (hh : P.has i t = true) : 0 ≤ i ∧ i ≤ (P.E.length : Int) ∧ (i = 0 ∨ eT (P.E.getD (i.toNat - 1) nilEn) = t) := by
  obtain ⟨h1, h2, h3⟩ := has_er hh
  have hb := h.bi
  unfold PL.li at h2
  refine ⟨by omega, by omega, ?_⟩
  by_cases hi : i = 0
  · exact .inl hi
  · right
    unfold PL.tm at h3
    rw [if_neg (by omega)] at h3
    rw [show i.toNat - 1 = (i - P.bi - 1).toNat by omega]
    exact h3

/-- What is known of a piece of another log is the same there. -/
theorem known_same {P : PL} {B : List En} (hz : Zr P) (hM : MtE P.E B) (hI : ∀ k, k < B.length → eI (B.getD k nilEn) = (k : Int) + 1) : ∀ (F : List En) (n : Nat), P.E.take n = B.take n → n ≤ P.E.length → n ≤ B.length → F = (B.drop n).take F.length →
    n + knN P F ≤ P.E.length ∧ P.E.take (n + knN P F) = B.take (n + knN P F)
  | [], n, h1, h2, h3, h4 => by simp only [knN, Nat.add_zero]; exact ⟨h2, h1⟩
  | e :: F, n, h1, h2, h3, h4 => by
    have hn : n < B.length := by
      rcases Nat.lt_or_ge n B.length with h | h
      · exact h
      · rw [List.drop_eq_nil_of_le h] at h4; simp at h4
    have hd : B.drop n = B[n] :: B.drop (n + 1) := List.drop_eq_getElem_cons hn
    rw [hd] at h4
    simp only [List.length_cons, List.take_succ_cons, List.cons.injEq] at h4
    obtain ⟨he, hF⟩ := h4
    have hg : B.getD n nilEn = e := by rw [he]; simp [List.getD_eq_getElem?_getD, hn]
    simp only [knN]
    split
    · rename_i hh
      obtain ⟨i1, i2, i3⟩ := has_zr hz hh
      have hie : eI e = (n : Int) + 1 := by rw [← hg]; exact hI n hn
      rw [hie] at i2 i3
      have hnP : n < P.E.length := by omega
      have ht : eT (P.E.getD n nilEn) = eT (B.getD n nilEn) := by
        rcases i3 with i3 | i3
        · omega
        · rw [hg, ← i3]
          congr 2
      have := known_same hz hM hI F (n + 1) (hM n hnP hn ht) (by omega) (by omega) hF
      rw [show n + (knN P F + 1) = n + 1 + knN P F by omega]
      exact this
    · simp only [Nat.add_zero]; exact ⟨h2, h1⟩

/-- A Try of a piece of another log leaves the log as it was, or makes it a front of the other. -/
theorem try_from {P : PL} {B : List En} (hz : Zr P) (hM : MtE P.E B) (hI : ∀ k, k < B.length → eI (B.getD k nilEn) = (k : Int) + 1) (n : Nat) (t : Int) (ht : n = 0 ∨ t = eT (B.getD (n - 1) nilEn)) (hn : n ≤ B.length) (F : List En) (hF : F = (B.drop n).take F.length) :
    (trP P (n : Int) F).E = P.E ∨ (P.has (n : Int) t = true → ∃ j, (trP P (n : Int) F).E = B.take j) := by
  unfold trP
  split
  · exact .inl rfl
  · right
    intro hh
    obtain ⟨i1, i2, i3⟩ := has_zr hz hh
    have h1 : P.E.take n = B.take n := hM.upto (by omega) hn (by
      rcases Nat.eq_zero_or_pos n with e | e
      · exact .inl e
      · right
        rcases i3 with i3 | i3
        · omega
        · rcases ht with ht | ht
          · omega
          · rw [show ((n : Int)).toNat - 1 = n - 1 by omega] at i3
            rw [i3, ht])
    have h2 := known_same hz hM hI F n h1 (by omega) hn hF
    have hb := hz.bi
    refine ⟨n + F.length, ?_⟩
    show P.E.take (((n : Int) - P.bi).toNat + knN P F) ++ F.drop (knN P F) = _
    rw [show ((n : Int) - P.bi).toNat = n by omega, h2.2]
    have hk := knN_le P F
    have e1 : F.drop (knN P F) = (B.drop (n + knN P F)).take (F.length - knN P F) := by
      have : F.drop (knN P F) = ((B.drop n).take F.length).drop (knN P F) := by rw [← hF]
      rw [this, List.drop_take, List.drop_drop]
    rw [e1, ← List.take_add]
    congr 1
    omega
end Go.Proofs.Yteekpfgjpdopmaa
