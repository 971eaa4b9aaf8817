/-
  Several logs, each term's entries laid by one of them alone: what stays true of them.
-/
import Derived.Test.YteekpfgjpdopmaaMp
namespace Go.Proofs.Yteekpfgjpdopmaa
set_option linter.unusedVariables false

def updP (L : Nat → PL) (j : Nat) (P : PL) : Nat → PL := fun i => if i = j then P else L i
theorem updP_same (L : Nat → PL) (j : Nat) (P : PL) : updP L j P j = P := if_pos rfl
theorem updP_ne (L : Nat → PL) {i j : Nat} (P : PL) (h : i ≠ j) : updP L j P i = L i := if_neg h

/-- Five logs; the term; its leader; was the leader given anything in it? -/
structure Mi (L : Nat → PL) (term : Int) (lead : Nat) (given : Bool) : Prop where
  zr : ∀ j, j < 5 → Zr (L j)
  mt : ∀ i j, i < 5 → j < 5 → MtE (L i).E (L j).E
  tl : ∀ j, j < 5 → ∀ k, k < (L j).E.length → eT ((L j).E.getD k nilEn) ≤ term
  ld : given = false → ∀ j, j < 5 → ∀ k, k < (L j).E.length → eT ((L j).E.getD k nilEn) = term → k < (L lead).E.length ∧ eT ((L lead).E.getD k nilEn) = term
  ll : lead < 5
  t0 : 0 ≤ term

theorem Zr.zero : Zr P0 := by
  refine ⟨⟨.inl ⟨rfl, rfl⟩, fun e he => (by cases he), fun k hk => absurd hk (Nat.not_lt_zero _), fun k hk => absurd hk (Nat.not_lt_zero _), Nat.zero_le _, Int.le_refl _, Int.le_refl _, Int.le_refl _, ?_, Int.le_refl _, Int.le_refl _, ?_⟩, rfl, rfl, rfl⟩
  · decide
  · decide
theorem Mi.start : Mi (fun _ => P0) 0 0 true :=
  ⟨fun _ _ => Zr.zero, fun _ _ _ _ => MtE.nil _, fun _ _ k hk => absurd hk (Nat.not_lt_zero _), fun h => (by cases h), by omega, Int.le_refl _⟩

/-- A new term: nobody has an entry of it. -/
theorem Mi.next {L : Nat → PL} {term : Int} {lead : Nat} {given : Bool} (h : Mi L term lead given) (of : Nat) (hof : of < 5) (g : Bool) : Mi L (term + 1) of g :=
  ⟨h.zr, h.mt, fun j hj k hk => by have := h.tl j hj k hk; omega, fun _ j hj k hk e => by have := h.tl j hj k hk; omega, hof, by have := h.t0; omega⟩

/-- A log is as it was, or a front of another one. -/
theorem Mi.give {L : Nat → PL} {term : Int} {lead : Nat} {given : Bool} (h : Mi L term lead given) (of to : Nat) (hof : of < 5) (hto : to < 5) (P : PL) (hz : Zr P) (hP : P.E = (L to).E ∨ ∃ j, P.E = (L of).E.take j) : Mi (updP L to P) term lead (given || decide (to = lead)) := by
  have hM : ∀ j, j < 5 → MtE P.E (L j).E := fun j hj => by
    rcases hP with e | ⟨n, e⟩
    · rw [e]; exact h.mt to j hto hj
    · rw [e]; exact (h.mt of j hof hj).take n
  have hT : ∀ k, k < P.E.length → ∃ j, j < 5 ∧ k < (L j).E.length ∧ P.E.getD k nilEn = (L j).E.getD k nilEn := fun k hk => by
    rcases hP with e | ⟨n, e⟩
    · exact ⟨to, hto, by rw [e] at hk; exact hk, by rw [e]⟩
    · have h2 : k < n ∧ k < (L of).E.length := by rw [e, List.length_take] at hk; omega
      exact ⟨of, hof, h2.2, by rw [e, getD_take h2.1]⟩
  refine ⟨fun j hj => ?_, fun i j hi hj => ?_, fun j hj k hk => ?_, fun hg j hj k hk ht => ?_, h.ll, h.t0⟩
  · by_cases e : j = to
    · subst e; rw [updP_same]; exact hz
    · rw [updP_ne L P e]; exact h.zr j hj
  · by_cases e1 : i = to
    · subst e1
      rw [updP_same]
      by_cases e2 : j = i
      · subst e2; rw [updP_same]; exact MtE.refl _
      · rw [updP_ne L P e2]; exact hM j hj
    · rw [updP_ne L P e1]
      by_cases e2 : j = to
      · subst e2; rw [updP_same]; exact (hM i hi).symm
      · rw [updP_ne L P e2]; exact h.mt i j hi hj
  · by_cases e : j = to
    · subst e
      rw [updP_same] at hk ⊢
      obtain ⟨i, hi, h2, h3⟩ := hT k hk
      rw [h3]
      exact h.tl i hi k h2
    · rw [updP_ne L P e] at hk ⊢
      exact h.tl j hj k hk
  · have hg2 : given = false ∧ ¬ to = lead := by simpa using hg
    rw [updP_ne L P (fun e => hg2.2 e.symm)]
    by_cases e : j = to
    · subst e
      rw [updP_same] at hk ht
      obtain ⟨i, hi, h2, h3⟩ := hT k hk
      rw [h3] at ht
      exact h.ld hg2.1 i hi k h2 ht
    · rw [updP_ne L P e] at hk ht
      exact h.ld hg2.1 j hj k hk ht

/-- The leader lays an entry of its term. -/
theorem Mi.app {L : Nat → PL} {term : Int} {lead : Nat} (h : Mi L term lead false) (P : PL) (hz : Zr P) (e : En) (he : eT e = term) (hP : P.E = (L lead).E ∨ P.E = (L lead).E ++ [e]) : Mi (updP L lead P) term lead false := by
  have hll := h.ll
  rcases hP with hP | hP
  · have hE : ∀ j, (updP L lead P j).E = (L j).E := fun j => by
      by_cases e : j = lead
      · subst e; rw [updP_same]; exact hP
      · rw [updP_ne L P e]
    refine ⟨fun j hj => ?_, fun i j hi hj => by rw [hE, hE]; exact h.mt i j hi hj, fun j hj k hk => by rw [hE] at hk ⊢; exact h.tl j hj k hk, fun hg j hj k hk ht => by rw [hE] at hk ht; rw [hE]; exact h.ld hg j hj k hk ht, hll, h.t0⟩
    by_cases e : j = lead
    · subst e; rw [updP_same]; exact hz
    · rw [updP_ne L P e]; exact h.zr j hj
  · have hfresh : ∀ j, j < 5 → ∀ k, k = (L lead).E.length → k < (L j).E.length → eT ((L j).E.getD k nilEn) ≠ eT e := fun j hj k hk hkl ht => by
      have := h.ld rfl j hj k hkl (ht.trans he)
      omega
    have hM : ∀ j, j < 5 → MtE P.E (L j).E := fun j hj => by rw [hP]; exact (h.mt lead j hll hj).snoc e (hfresh j hj)
    have hold : ∀ k, k < (L lead).E.length → P.E.getD k nilEn = (L lead).E.getD k nilEn := fun k hk => by
      rw [hP]; simp only [List.getD_eq_getElem?_getD, List.getElem?_append_left hk]
    have hnew : P.E.getD (L lead).E.length nilEn = e := by rw [hP]; simp [List.getD_eq_getElem?_getD]
    have hlen : P.E.length = (L lead).E.length + 1 := by rw [hP]; simp
    refine ⟨fun j hj => ?_, fun i j hi hj => ?_, fun j hj k hk => ?_, fun _ j hj k hk ht => ?_, hll, h.t0⟩
    · by_cases e : j = lead
      · subst e; rw [updP_same]; exact hz
      · rw [updP_ne L P e]; exact h.zr j hj
    · by_cases e1 : i = lead
      · subst e1
        rw [updP_same]
        by_cases e2 : j = i
        · subst e2; rw [updP_same]; exact MtE.refl _
        · rw [updP_ne L P e2]; exact hM j hj
      · rw [updP_ne L P e1]
        by_cases e2 : j = lead
        · subst e2; rw [updP_same]; exact (hM i hi).symm
        · rw [updP_ne L P e2]; exact h.mt i j hi hj
    · by_cases e2 : j = lead
      · subst e2
        rw [updP_same] at hk ⊢
        by_cases hk2 : k < (L j).E.length
        · rw [hold k hk2]; exact h.tl j hj k hk2
        · rw [show k = (L j).E.length by omega, hnew, he]; exact Int.le_refl _
      · rw [updP_ne L P e2] at hk ⊢
        exact h.tl j hj k hk
    · rw [updP_same]
      by_cases e2 : j = lead
      · subst e2
        rw [updP_same] at hk ht
        exact ⟨hk, ht⟩
      · rw [updP_ne L P e2] at hk ht
        obtain ⟨h1, h2⟩ := h.ld rfl j hj k hk ht
        exact ⟨by omega, by rw [hold k h1]; exact h2⟩
end Go.Proofs.Yteekpfgjpdopmaa
