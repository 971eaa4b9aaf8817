/-
  Try.
-/
import Derived.Test.YteekpfgjpdopmaaPu
import Derived.Test.YteekpfgjpdopmaaKn
import Derived.Test.YteekpfgjpdopmaaCo
namespace Go.Proofs.Yteekpfgjpdopmaa
open Go.RowKit
set_option linter.unusedVariables false

/-- Is a Try taken? -/
def trY (P : PL) (i t : Int) (E : List En) : Bool :=
  P.has i t && (ckList i t E == 0) && ((E.drop (knN P E)).isEmpty || puY P ((i - P.bi).toNat + knN P E) (E.length - knN P E))
/-- The log behind what is put. -/
def trP (P : PL) (i : Int) (E : List En) : PL := if (E.drop (knN P E)).isEmpty then P else puP P ((i - P.bi).toNat + knN P E) (E.drop (knN P E))
/-- The log behind a Try. -/
def trL (P : PL) (i t c : Int) (E : List En) : PL := if trY P i t E then coP (trP P i E) (min c (i + (E.length : Int))) else P

theorem has_er {P : PL} {i t : Int} (h : P.has i t = true) : P.bi ≤ i ∧ i ≤ P.li ∧ P.tm i = t := by
  unfold PL.has at h
  simp only [Bool.and_eq_true, beq_iff_eq] at h
  obtain ⟨h1, h2⟩ := h
  unfold PL.er at h1
  by_cases a : i < P.bi
  · rw [if_pos a] at h1; omega
  rw [if_neg a] at h1
  by_cases b : P.li < i
  · rw [if_pos b] at h1; omega
  exact ⟨by omega, by omega, h2⟩
theorem has_mk {P : PL} {i t : Int} (h1 : P.bi ≤ i) (h2 : i ≤ P.li) (h3 : P.tm i = t) : P.has i t = true := by
  unfold PL.has PL.er
  rw [if_neg (by omega), if_neg (by omega)]
  simp [h3]
theorem ckList_zero {i t : Int} {E : List En} (h : ckList i t E = 0) : (∀ e ∈ E, eCk e = 0) ∧ (∀ k, k < E.length → eI (E.getD k nilEn) = i + 1 + (k : Int)) ∧ (∀ k, k < E.length → (if k = 0 then t else eT (E.getD (k - 1) nilEn)) ≤ eT (E.getD k nilEn)) := by
  unfold ckList at h
  by_cases hf : firstErr E = 0
  · rw [hf, if_neg (by simp)] at h
    by_cases hg : goesE i t E = true
    · exact ⟨firstErr_all.1 hf, (goesE_spec E i t).1 hg⟩
    · rw [if_neg hg] at h; omega
  · rw [if_pos hf] at h; exact absurd h hf
/-- All that are known are there with their terms. -/
theorem knN_has (P : PL) : ∀ (E : List En) (k : Nat), k < knN P E → P.has (eI (E.getD k nilEn)) (eT (E.getD k nilEn)) = true
  | [], k, hk => by simp [knN] at hk
  | e :: r, k, hk => by
    unfold knN at hk
    by_cases h : P.has (eI e) (eT e) = true
    · rw [if_pos h] at hk
      cases k with
      | zero => simpa using h
      | succ k => simpa using knN_has P r k (by omega)
    · rw [if_neg h] at hk; omega

/-- What is put is a log. -/
theorem put_fits {P : PL} (h : P.Ok) {i t : Int} {E : List En} (hh : P.has i t = true) (hc : ckList i t E = 0) (hn : knN P E < E.length) (hy : puY P ((i - P.bi).toNat + knN P E) (E.length - knN P E) = true) :
    ((i - P.bi).toNat + knN P E ≤ P.E.length) ∧ (puP P ((i - P.bi).toNat + knN P E) (E.drop (knN P E))).Ok := by
  obtain ⟨b1, b2, b3⟩ := has_er hh
  obtain ⟨c1, c2, c3⟩ := ckList_zero hc
  obtain ⟨n0, hn0⟩ : ∃ n0 : Nat, i = P.bi + (n0 : Int) := ⟨(i - P.bi).toNat, by omega⟩
  have hi0 : (i - P.bi).toNat = n0 := by omega
  rw [hi0] at hy ⊢
  obtain ⟨q, hq⟩ : ∃ q, knN P E = q := ⟨_, rfl⟩
  have hkn : ∀ k, k < q → P.has (eI (E.getD k nilEn)) (eT (E.getD k nilEn)) = true := fun k hk => knN_has P E k (by omega)
  rw [hq] at hn hy ⊢
  -- the index ahead of what is put, and its term
  have hA : n0 + q ≤ P.E.length ∧ P.tm (P.bi + ((n0 + q : Nat) : Int)) = (if q = 0 then t else eT (E.getD (q - 1) nilEn)) := by
    by_cases hz : q = 0
    · subst hz
      refine ⟨by unfold PL.li at b2; omega, ?_⟩
      rw [if_pos rfl, ← b3, hn0]
      congr 1
    · rw [if_neg hz]
      obtain ⟨d1, d2, d3⟩ := has_er (hkn (q - 1) (by omega))
      have e1 := c2 (q - 1) (by omega)
      refine ⟨by unfold PL.li at d2; omega, ?_⟩
      rw [← d3, e1]
      congr 1
      omega
  obtain ⟨hA1, hA2⟩ := hA
  refine ⟨hA1, ?_⟩
  unfold puY at hy
  simp only [Bool.and_eq_true, decide_eq_true_eq] at hy
  obtain ⟨y1, y2⟩ := hy
  have hlen : ((puP P (n0 + q) (E.drop q)).E).length = n0 + q + (E.length - q) := by simp [puP]; omega
  have hli : (puP P (n0 + q) (E.drop q)).li = P.bi + ((n0 + q + (E.length - q) : Nat) : Int) := by unfold PL.li; rw [hlen]; rfl
  have hget : ∀ k, k < n0 + q + (E.length - q) → (puP P (n0 + q) (E.drop q)).E.getD k nilEn = if k < n0 + q then P.E.getD k nilEn else E.getD (q + (k - (n0 + q))) nilEn := fun k hk => by
    simp only [puP, List.getD_eq_getElem?_getD]
    by_cases hl : k < n0 + q
    · rw [if_pos hl, List.getElem?_append_left (by simp; omega), List.getElem?_take, if_pos hl]
    · rw [if_neg hl, List.getElem?_append_right (by simp; omega), List.getElem?_drop]
      congr 3
      simp
      omega
  have htm : ∀ k : Nat, k ≤ n0 + q → (puP P (n0 + q) (E.drop q)).tm (P.bi + (k : Int)) = P.tm (P.bi + (k : Int)) := fun k hk => by
    cases k with
    | zero =>
      rw [show P.bi + ((0 : Nat) : Int) = P.bi by simp, PL.tm_base]
      exact PL.tm_base (puP P (n0 + q) (E.drop q))
    | succ k =>
      have e1 := PL.tm_ent (puP P (n0 + q) (E.drop q)) (k := k)
      have e2 := PL.tm_ent P (k := k)
      rw [show P.bi + ((k + 1 : Nat) : Int) = P.bi + 1 + (k : Int) by omega, e2]
      refine e1.trans ?_
      rw [hget k (by omega), if_pos (by omega)]
  have htn : ∀ k : Nat, k < E.length - q → (puP P (n0 + q) (E.drop q)).tm (P.bi + ((n0 + q : Nat) : Int) + (k : Int) + 1) = eT (E.getD (q + k) nilEn) := fun k hk => by
    have e1 := PL.tm_ent (puP P (n0 + q) (E.drop q)) (k := n0 + q + k)
    rw [show P.bi + ((n0 + q : Nat) : Int) + (k : Int) + 1 = P.bi + 1 + ((n0 + q + k : Nat) : Int) by omega]
    refine e1.trans ?_
    rw [hget _ (by omega), if_neg (by omega)]
    congr 2
    omega
  refine ⟨h.base, ?_, ?_, ?_, by rw [hlen]; omega, h.ba, h.ag, h.gc, by rw [hli]; show P.c ≤ _; omega, ?_, ?_, ?_⟩
  · intro e he
    rcases List.mem_append.1 he with he | he
    · exact h.ck e (List.mem_of_mem_take he)
    · exact c1 e (List.mem_of_mem_drop he)
  · intro k hk
    rw [hlen] at hk
    rw [hget k hk]
    by_cases hl : k < n0 + q
    · rw [if_pos hl]; exact h.ix k (by omega)
    · rw [if_neg hl, c2 _ (by omega)]
      show _ = P.bi + 1 + (k : Int)
      omega
  · intro k hk
    rw [hlen] at hk
    show (puP P (n0 + q) (E.drop q)).tm (P.bi + (k : Int)) ≤ (puP P (n0 + q) (E.drop q)).tm (P.bi + (k : Int) + 1)
    by_cases hl : k < n0 + q
    · rw [htm k (by omega), show P.bi + (k : Int) + 1 = P.bi + ((k + 1 : Nat) : Int) by omega, htm (k + 1) (by omega)]
      have := h.up k (by omega)
      rwa [show P.bi + (k : Int) + 1 = P.bi + ((k + 1 : Nat) : Int) by omega] at this
    · obtain ⟨j, rfl⟩ : ∃ j, k = n0 + q + j := ⟨k - (n0 + q), by omega⟩
      rw [show P.bi + ((n0 + q + j : Nat) : Int) + 1 = P.bi + ((n0 + q : Nat) : Int) + (j : Int) + 1 by omega, htn j (by omega)]
      have := c3 (q + j) (by omega)
      cases j with
      | zero =>
        rw [show n0 + q + 0 = n0 + q by omega, htm (n0 + q) (Nat.le_refl _), hA2]
        exact this
      | succ j =>
        rw [if_neg (by omega)] at this
        rw [show P.bi + ((n0 + q + (j + 1) : Nat) : Int) = P.bi + ((n0 + q : Nat) : Int) + (j : Int) + 1 by omega, htn j (by omega)]
        exact this
  · show P.g ≤ min P.s _
    have := h.gs; have := h.gc
    omega
  · show min P.s _ ≤ min P.h _
    have := h.sh
    omega
  · rw [hli]
    show min P.h _ ≤ _
    omega
end Go.Proofs.Yteekpfgjpdopmaa
