/-
  LogHands: what was told, and the log.
-/
import Derived.Test.YteekpfgjpdopmaaAq
import Derived.Test.YteekpfgjpdopmaaTw
import Derived.Test.YteekpfgjpdopmaaEn
import Derived.Test.YteekpfgjpdopmaaHn
namespace Go.Proofs.Yteekpfgjpdopmaa
open Go.RowKit
set_option linter.unusedVariables false

/-- What was told holds the log up to the handed mark. -/
structure HI (P : PL) (T : List En) : Prop where
  bi : P.bi = 0
  le : P.h ≤ (T.length : Int)
  pre : T.take P.h.toNat = P.E.take P.h.toNat
  or : P.h = (T.length : Int) ∨ P.h < P.li
  sm : ∀ e ∈ T, (eD e).length ≤ 4096
  ln : T.length ≤ 10000

theorem HI.zero : HI P0 [] := ⟨rfl, by simp [P0], rfl, .inl (by simp [P0]), by simp, by simp⟩

theorem PL.Ok.h0 {P : PL} (h : P.Ok) : P.bi ≤ P.h := by have := h.ba; have := h.ag; have := h.gs; have := h.sh; omega

theorem HI.ap {P : PL} {T : List En} (ok : P.Ok) (h : HI P T) (t k : Int) (d : List UInt8) : HI (apL P t k d) T := by
  unfold apL
  split
  · have hh := ok.hl
    have h0 := ok.h0
    have hb := h.bi
    refine ⟨h.bi, h.le, ?_, ?_, h.sm, h.ln⟩
    · show T.take P.h.toNat = (P.E ++ [_]).take P.h.toNat
      rw [List.take_append_of_le_length (by unfold PL.li at hh; omega)]
      exact h.pre
    · refine h.or.imp id (fun h2 => ?_)
      show P.h < P.bi + ((P.E ++ [_]).length : Int)
      simp
      unfold PL.li at h2
      omega
  · exact h

theorem HI.co {P : PL} {T : List En} (h : HI P T) (i : Int) : HI (coP P i) T := ⟨h.bi, h.le, h.pre, h.or, h.sm, h.ln⟩

theorem HI.tr {P : PL} {T : List En} (ok : P.Ok) (h : HI P T) (i t c : Int) (E : List En) : HI (trL P i t c E) T := by
  unfold trL
  split
  · rename_i hY
    refine HI.co ?_ _
    unfold trP
    split
    · exact h
    · rename_i hne
      unfold trY at hY
      simp only [Bool.and_eq_true, beq_iff_eq] at hY
      have hkn := knN_in ok (E := E) hY.1.1 hY.1.2
      have hF : 0 < (E.drop (knN P E)).length := by
        rcases hd : E.drop (knN P E) with _ | ⟨a, r⟩
        · rw [hd] at hne; simp at hne
        · simp
      generalize (i - P.bi).toNat + knN P E = k0 at *
      generalize E.drop (knN P E) = F at *
      have hb := h.bi
      have h0 := ok.h0
      have hle := h.le
      have e1 : (puP P k0 F).h = min P.h (P.bi + (k0 : Int)) := rfl
      have e2 : (puP P k0 F).li = P.bi + ((k0 + F.length : Nat) : Int) := by unfold PL.li puP; simp; omega
      refine ⟨h.bi, by rw [e1]; omega, ?_, .inr (by rw [e1, e2]; omega), h.sm, h.ln⟩
      rw [e1]
      obtain ⟨m, hm, hm1, hm2⟩ : ∃ m, (min P.h (P.bi + (k0 : Int))).toNat = m ∧ m ≤ P.h.toNat ∧ m ≤ k0 := ⟨_, rfl, by omega, by omega⟩
      rw [hm]
      show T.take m = (P.E.take k0 ++ F).take m
      rw [List.take_append_of_le_length (by simp; omega), List.take_take, Nat.min_eq_left hm2]
      have := congrArg (List.take m) h.pre
      rw [List.take_take, List.take_take, Nat.min_eq_left hm1] at this
      exact this
  · exact h

theorem HI.ha {P : PL} {T : List En} (ok : P.Ok) (h : HI P T) : HI (haP P) P.E :=
  ⟨h.bi, by have := h.bi; show P.li ≤ _; unfold PL.li; omega, rfl, .inl (by have := h.bi; show P.li = _; unfold PL.li; omega), fun e he => (eCk_ok (ok.ck e he)).2.2.2.2, ok.len⟩

/-- Handing: the k-th told list. -/
def HK (P : PL) (T : List En) (k : Nat) (U : List En) : Prop := (k = 0 ∧ U = T) ∨ U = P.E.take (P.h.toNat + k)

theorem HK.take {P : PL} {T U : List En} {k : Nat} (h : HI P T) (hk : HK P T k U) : U.take (P.h.toNat + k) = P.E.take (P.h.toNat + k) := by
  rcases hk with ⟨rfl, rfl⟩ | rfl
  · exact h.pre
  · rw [List.take_take, Nat.min_self]
theorem HK.le {P : PL} {T U : List En} {k : Nat} (ok : P.Ok) (h : HI P T) (hk : HK P T k U) (hkl : P.h.toNat + k ≤ P.E.length) : P.h.toNat + k ≤ U.length := by
  have := h.le
  rcases hk with ⟨rfl, rfl⟩ | rfl
  · omega
  · simp; omega
theorem HK.next {P : PL} {T U : List En} {k : Nat} (h : HI P T) (hk : HK P T k U) (hlt : P.h.toNat + k < P.E.length) : HK P T (k + 1) (U.take (P.h.toNat + k) ++ [P.E.getD (P.h.toNat + k) nilEn]) := by
  refine .inr ?_
  rw [hk.take h, ← Nat.add_assoc, List.take_add_one, List.getD_eq_getElem?_getD, List.getElem?_eq_getElem hlt]
  rfl
theorem HK.fin {P : PL} {T U : List En} {k : Nat} (ok : P.Ok) (h : HI P T) (hk : HK P T k U) (he : P.h.toNat + k = P.E.length) : U = P.E := by
  have hb := h.bi
  have h0 := ok.h0
  rcases hk with ⟨rfl, rfl⟩ | rfl
  · have h1 : P.h = P.li := by unfold PL.li; omega
    have h2 := h.or
    have h3 : P.h = (U.length : Int) := by omega
    have := h.pre
    rw [List.take_of_length_le (by omega), List.take_of_length_le (by omega)] at this
    exact this
  · exact List.take_of_length_le (by omega)
theorem HK.sm {P : PL} {T U : List En} {k : Nat} (ok : P.Ok) (h : HI P T) (hk : HK P T k U) : (∀ e ∈ U, (eD e).length ≤ 4096) ∧ U.length ≤ 10000 := by
  rcases hk with ⟨rfl, rfl⟩ | rfl
  · exact ⟨h.sm, h.ln⟩
  · exact ⟨fun e he => (eCk_ok (ok.ck e (List.mem_of_mem_take he))).2.2.2.2, by have := ok.len; simp; omega⟩
theorem all_of {P : PL} (ok : P.Ok) (hb : P.bi = 0) : enL P 1 10000 = P.E := by
  have h1 := ok.len
  unfold enL enE
  have h2 : P.li = (P.E.length : Int) := by unfold PL.li; omega
  rw [if_pos (by rw [if_neg (by omega), if_neg (by omega)])]
  unfold cnt
  rw [h2, hb]
  exact List.take_of_length_le (by simp; omega)
theorem haE_get {P : PL} (ok : P.Ok) (hb : P.bi = 0) {k : Nat} (hk : k < (haE P).length) : (haE P).getD k nilEn = P.E.getD (P.h.toNat + k) nilEn ∧ eI ((haE P).getD k nilEn) = P.h + (k : Int) + 1 ∧ P.h.toNat + k < P.E.length := by
  have h0 := ok.h0
  unfold haE at hk ⊢
  have e1 : (P.h - P.bi).toNat = P.h.toNat := by rw [hb]; simp
  rw [e1] at hk ⊢
  simp at hk
  have e2 : (P.E.drop P.h.toNat).getD k nilEn = P.E.getD (P.h.toNat + k) nilEn := by simp [List.getD_eq_getElem?_getD, List.getElem?_drop]
  rw [e2]
  refine ⟨rfl, ?_, by omega⟩
  rw [ok.ix _ (by omega), hb]
  omega
theorem haE_len {P : PL} (ok : P.Ok) (hb : P.bi = 0) : P.h.toNat + (haE P).length = P.E.length := by
  have h0 := ok.h0
  have h1 := ok.hl
  unfold haE
  unfold PL.li at h1
  simp
  omega
end Go.Proofs.Yteekpfgjpdopmaa
