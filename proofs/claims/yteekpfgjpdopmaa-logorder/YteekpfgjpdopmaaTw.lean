/-
  A Try made twice: the plain part.
-/
import Derived.Test.YteekpfgjpdopmaaTy
namespace Go.Proofs.Yteekpfgjpdopmaa
open Go.RowKit
set_option linter.unusedVariables false

theorem coP_tm (P : PL) (x i : Int) : (coP P x).tm i = P.tm i ∧ (coP P x).li = P.li ∧ (coP P x).bi = P.bi := ⟨rfl, rfl, rfl⟩
theorem coP_has (P : PL) (x i t : Int) : (coP P x).has i t = P.has i t := rfl
theorem coP_knN (P : PL) (x : Int) : ∀ E : List En, knN (coP P x) E = knN P E
  | [] => rfl
  | e :: r => by unfold knN; rw [coP_has, coP_knN P x r]
theorem coP_twice (P : PL) (x : Int) : coP (coP P x) x = coP P x := by
  unfold coP PL.mk'
  have e : (max (max P.c (min x P.li)) (min x (PL.li ⟨P.bi, P.bt, P.E, P.h, P.s, max P.c (min x P.li), P.g, P.a⟩))) = max P.c (min x P.li) := by
    have : PL.li ⟨P.bi, P.bt, P.E, P.h, P.s, max P.c (min x P.li), P.g, P.a⟩ = P.li := rfl
    rw [this]
    omega
  simp only [PL.mk.injEq, true_and, and_true]
  exact e
theorem knN_all {P : PL} : ∀ {E : List En}, (∀ k, k < E.length → P.has (eI (E.getD k nilEn)) (eT (E.getD k nilEn)) = true) → knN P E = E.length
  | [], _ => rfl
  | e :: r, h => by
    have h0 := h 0 (by simp)
    unfold knN
    rw [if_pos (by simpa using h0), knN_all (fun k hk => by simpa using h (k + 1) (by simpa using hk))]
    rfl

/-- A log behind a put: its terms, its last index. -/
theorem puP_tm (P : PL) (k0 : Nat) (F : List En) (hk : k0 ≤ P.E.length) : (puP P k0 F).li = P.bi + ((k0 + F.length : Nat) : Int) ∧ (∀ k : Nat, k ≤ k0 → (puP P k0 F).tm (P.bi + (k : Int)) = P.tm (P.bi + (k : Int))) ∧ ∀ k : Nat, k < F.length → (puP P k0 F).tm (P.bi + ((k0 + k + 1 : Nat) : Int)) = eT (F.getD k nilEn) := by
  have hlen : ((puP P k0 F).E).length = k0 + F.length := by simp [puP]; omega
  have hget : ∀ k, k < k0 + F.length → (puP P k0 F).E.getD k nilEn = if k < k0 then P.E.getD k nilEn else F.getD (k - k0) nilEn := fun k hk2 => by
    simp only [puP, List.getD_eq_getElem?_getD]
    by_cases hl : k < k0
    · rw [if_pos hl, List.getElem?_append_left (by simp; omega), List.getElem?_take, if_pos hl]
    · rw [if_neg hl, List.getElem?_append_right (by simp; omega)]
      congr 2
      simp
      omega
  refine ⟨by unfold PL.li; rw [hlen]; rfl, fun k hk1 => ?_, fun k hk1 => ?_⟩
  · cases k with
    | zero =>
      rw [show P.bi + ((0 : Nat) : Int) = P.bi by simp, PL.tm_base]
      exact PL.tm_base (puP P k0 F)
    | succ k =>
      have e1 := PL.tm_ent (puP P k0 F) (k := k)
      have e2 := PL.tm_ent P (k := k)
      rw [show P.bi + ((k + 1 : Nat) : Int) = P.bi + 1 + (k : Int) by omega, e2]
      refine e1.trans ?_
      rw [hget k (by omega), if_pos (by omega)]
  · have e1 := PL.tm_ent (puP P k0 F) (k := k0 + k)
    rw [show P.bi + ((k0 + k + 1 : Nat) : Int) = P.bi + 1 + ((k0 + k : Nat) : Int) by omega]
    refine e1.trans ?_
    rw [hget _ (by omega), if_neg (by omega)]
    congr 2
    omega

/-- Behind a Try that was taken the log has all of it. -/
theorem try_has {P : PL} (h : P.Ok) {i t : Int} {E : List En} (hY : trY P i t E = true) : (trP P i E).has i t = true ∧ knN (trP P i E) E = E.length := by
  unfold trY at hY
  simp only [Bool.and_eq_true, Bool.or_eq_true, beq_iff_eq] at hY
  obtain ⟨⟨h1, h2⟩, h3⟩ := hY
  obtain ⟨c1, c2, c3⟩ := ckList_zero h2
  obtain ⟨b1, b2, b3⟩ := has_er h1
  have hle := knN_le P E
  unfold trP
  by_cases he : (E.drop (knN P E)).isEmpty = true
  · rw [if_pos he]
    refine ⟨h1, ?_⟩
    simp at he
    omega
  · rw [if_neg he]
    have hy := h3.resolve_left he
    have hk := knN_in h h1 h2
    obtain ⟨n0, hn0⟩ : ∃ n0 : Nat, i = P.bi + (n0 : Int) := ⟨(i - P.bi).toNat, by omega⟩
    have hi0 : (i - P.bi).toNat = n0 := by omega
    rw [hi0] at hk ⊢
    obtain ⟨q, hq⟩ : ∃ q, knN P E = q := ⟨_, rfl⟩
    have hkn : ∀ k, k < q → P.has (eI (E.getD k nilEn)) (eT (E.getD k nilEn)) = true := fun k hk => knN_has P E k (by omega)
    rw [hq] at hk hle ⊢
    obtain ⟨p1, p2, p3⟩ := puP_tm P (n0 + q) (E.drop q) hk
    rw [List.length_drop] at p1 p3
    have hbi : (puP P (n0 + q) (E.drop q)).bi = P.bi := rfl
    refine ⟨has_mk (by rw [hbi]; exact b1) (by rw [p1]; omega) ?_, knN_all (fun k hk2 => ?_)⟩
    · rw [hn0, p2 n0 (by omega), ← hn0]; exact b3
    · have ei := c2 k hk2
      by_cases hkq : k < q
      · obtain ⟨d1, d2, d3⟩ := has_er (hkn k hkq)
        refine has_mk (by rw [hbi]; exact d1) (by rw [p1, ei]; omega) ?_
        have e1 : eI (E.getD k nilEn) = P.bi + ((n0 + k + 1 : Nat) : Int) := by rw [ei]; omega
        rw [e1] at d3 ⊢
        rw [p2 _ (by omega)]
        exact d3
      · have e1 : eI (E.getD k nilEn) = P.bi + ((n0 + q + (k - q) + 1 : Nat) : Int) := by rw [ei]; omega
        refine has_mk (by rw [hbi, e1]; omega) (by rw [p1, e1]; omega) ?_
        rw [e1, p3 (k - q) (by omega)]
        congr 1
        simp only [List.getD_eq_getElem?_getD, List.getElem?_drop]
        congr 2
        omega

theorem trP_id {Q : PL} {i : Int} {E : List En} (h : (E.drop (knN Q E)).isEmpty = true) : trP Q i E = Q := by unfold trP; rw [if_pos h]

/-- A Try that was taken, made once more. -/
theorem try_twice {P : PL} (h : P.Ok) {i t c : Int} {E : List En} (hY : trY P i t E = true) : trY (trL P i t c E) i t E = true ∧ trL (trL P i t c E) i t c E = trL P i t c E := by
  obtain ⟨h1, h2⟩ := try_has h hY
  have hc : ckList i t E = 0 := by
    unfold trY at hY
    simp only [Bool.and_eq_true, beq_iff_eq] at hY
    exact hY.1.2
  have eL := (tr_yes (c := c) hY).2
  rw [eL]
  have hkn : knN (coP (trP P i E) (min c (i + (E.length : Int)))) E = E.length := by rw [coP_knN]; exact h2
  have hemp : (E.drop (knN (coP (trP P i E) (min c (i + (E.length : Int)))) E)).isEmpty = true := by rw [hkn]; simp
  have hY2 : trY (coP (trP P i E) (min c (i + (E.length : Int)))) i t E = true := by
    unfold trY
    rw [coP_has, h1, hc, hemp]
    simp
  refine ⟨hY2, ?_⟩
  rw [(tr_yes (c := c) hY2).2]
  have e3 : trP (coP (trP P i E) (min c (i + (E.length : Int)))) i E = coP (trP P i E) (min c (i + (E.length : Int))) := trP_id hemp
  rw [e3, coP_twice]
end Go.Proofs.Yteekpfgjpdopmaa
