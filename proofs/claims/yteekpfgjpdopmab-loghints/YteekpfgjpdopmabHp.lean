/-
  LogHints: the plain part.
-/
import Derived.Test.YteekpfgjpdopmabBl
namespace Go.Proofs.Yteekpfgjpdopmab
open Go.RowKit
set_option linter.unusedVariables false

/-- Terms that do not fall, up to nine. -/
def Up : Int → List Int → Prop
  | _, [] => True
  | t, x :: r => t ≤ x ∧ 1 ≤ x ∧ x ≤ 9 ∧ Up x r
theorem Up_risF : ∀ (l : List Int) (t : Int), 1 ≤ t → t ≤ 9 → Up t (risF t l)
  | [], _, _, _ => trivial
  | x :: r, t, h1, h2 => by
    obtain ⟨a, c, -, -, -, -, -, -, -, s0, s1⟩ := stp_bd x
    exact ⟨by omega, by omega, by omega, Up_risF r _ (by omega) (by omega)⟩
theorem Up.weak : ∀ {l : List Int} {t u : Int}, Up t l → u ≤ t → Up u l
  | [], _, _, _, _ => trivial
  | x :: r, t, u, h, hu => ⟨by have := h.1; omega, h.2⟩
theorem Up.mono : ∀ {l : List Int} {t : Int}, Up t l → ∀ i j, i ≤ j → j < l.length → l[i]?.getD 0 ≤ l[j]?.getD 0
  | [], _, _, i, j, _, hj => by simp at hj
  | x :: r, t, h, i, j, hij, hj => by
    cases j with
    | zero =>
      have : i = 0 := by omega
      subst this
      exact Int.le_refl _
    | succ j =>
      cases i with
      | zero =>
        have hx := Up.mono (t := x) (l := r) h.2.2.2
        simp only [List.getElem?_cons_zero, Option.getD_some, List.getElem?_cons_succ]
        have hj' : j < r.length := by simpa using hj
        have h0 : x ≤ r[0]?.getD 0 := by
          cases r with
          | nil => simp at hj'
          | cons y r => exact h.2.2.2.1
        exact Int.le_trans h0 (hx 0 j (Nat.zero_le _) hj')
      | succ i =>
        simp only [List.getElem?_cons_succ]
        exact Up.mono (t := x) h.2.2.2 i j (by omega) (by simpa using hj)

theorem ap_ok {P : PL} (hb : P.bi = 0) (hl : P.E.length ≤ 2000) {x : Int} (h1 : P.lt ≤ x) (h2 : 1 ≤ x) (h3 : x ≤ 9) (y : UInt8) : apE P x 1 [y].length = 0 := by
  unfold apE PL.li
  rw [hb, if_neg (by omega), if_neg (by omega), if_neg (by omega)]
  have i1 : isIn x 1 4611686018427387904 = true := by unfold isIn; simp; omega
  have i2 : isIn (0 + (P.E.length : Int) + 1) 1 4611686018427387904 = true := by unfold isIn; simp; omega
  unfold ckEntry
  rw [i1, i2]
  simp
theorem apP_lt {P : PL} (x k : Int) (d : List UInt8) : (apP P x k d).lt = x := by
  have h1 : (apP P x k d).li = (apP P x k d).bi + 1 + (P.E.length : Int) := by unfold PL.li; simp [apP]; omega
  unfold PL.lt
  rw [h1, PL.tm_ent]
  simp [apP, eT]

theorem blt_spec : ∀ (l : List Int) (P : PL), P.bi = 0 → P.E.length + l.length ≤ 1000 → Up P.lt l → (blt P l).bi = 0 ∧ (blt P l).E.map eT = P.E.map eT ++ l
  | [], P, hb, _, _ => ⟨hb, by simp [blt]⟩
  | x :: r, P, hb, hl, hu => by
    simp at hl
    have hz : apE P x 1 [byt x].length = 0 := ap_ok hb (by omega) hu.1 hu.2.1 hu.2.2.1 _
    have e : apL P x 1 [byt x] = apP P x 1 [byt x] := by unfold apL; rw [if_pos hz]
    have := blt_spec r (apP P x 1 [byt x]) hb (by simp [apP]; omega) (by rw [apP_lt]; exact hu.2.2.2)
    unfold blt
    rw [e]
    refine ⟨this.1, ?_⟩
    rw [this.2]
    simp [apP, eT]

theorem hin_le (P : PL) (t : Int) : ∀ n : Nat, hin P t n ≤ P.bi + (n : Int) ∧ P.bi ≤ hin P t n
  | 0 => by simp [hin]
  | n + 1 => by
    have := hin_le P t n
    unfold hin
    split <;> omega
theorem hin_ge (P : PL) (t : Int) : ∀ n j : Nat, j ≤ n → (j = 0 ∨ P.tm (P.bi + (j : Int)) ≤ t) → P.bi + (j : Int) ≤ hin P t n
  | 0, j, hj, _ => by
    have : j = 0 := by omega
    subst this
    simp [hin]
  | n + 1, j, hj, h => by
    unfold hin
    split
    · omega
    · by_cases hjn : j = n + 1
      · subst hjn
        rcases h with h | h
        · omega
        · contradiction
      · exact hin_ge P t n j (by omega) h

theorem index_small (m : Nat) (hm : 1 ≤ m) (hm2 : m ≤ 1000) (r : Int) : ∃ (x y : Int) (R : Nat), r.tmod (m : Int) = x ∧ (x + (m : Int)).tmod (m : Int) = y ∧ y + 1 = (R : Int) ∧ 1 ≤ R ∧ R ≤ m ∧ -(m : Int) < x ∧ x < (m : Int) ∧ 0 ≤ y ∧ y < (m : Int) := by
  have h1 : -(m : Int) < r.tmod (m : Int) := by
    have h := Int.natAbs_tmod r (m : Int)
    have h' := Nat.mod_lt r.natAbs (y := (m : Int).natAbs) (by omega)
    rw [← h] at h'
    omega
  have h2 : r.tmod (m : Int) < (m : Int) := Int.tmod_lt_of_pos r (by omega)
  have h3 : 0 ≤ (r.tmod (m : Int) + (m : Int)).tmod (m : Int) := Int.tmod_nonneg _ (by omega)
  have h4 : (r.tmod (m : Int) + (m : Int)).tmod (m : Int) < (m : Int) := Int.tmod_lt_of_pos _ (by omega)
  exact ⟨_, _, ((r.tmod (m : Int) + (m : Int)).tmod (m : Int)).toNat + 1, rfl, rfl, by omega, by omega, by omega, h1, h2, h3, h4⟩

/-- A hint is not below where the logs part. -/
theorem hint_meets {p q : List Int} {P : PL} (hp : Up 1 p) (hbi : P.bi = 0) (hE : P.E.map eT = q) {i k : Nat} (h1 : 1 ≤ i) (hi : i ≤ p.length) (hk1 : k ≤ p.length) (hk2 : k ≤ q.length) (hm : ∀ j, j < k → p[j]?.getD 0 = q[j]?.getD 0) :
    min (k : Int) (i : Int) ≤ hint P (i : Int) (p[i - 1]?.getD 0) ∧ hint P (i : Int) (p[i - 1]?.getD 0) ≤ (i : Int) ∧ hint P (i : Int) (p[i - 1]?.getD 0) ≤ (q.length : Int) := by
  have hlen : P.E.length = q.length := by rw [← hE]; simp
  have hli : P.li = (q.length : Int) := by unfold PL.li; rw [hbi, hlen]; omega
  unfold hint hiA
  rw [hli, hbi, if_neg (by omega)]
  obtain ⟨n, hn⟩ : ∃ n : Nat, (min (i : Int) (q.length : Int) - 0).toNat = n := ⟨_, rfl⟩
  have hn2 : (n : Int) = min (i : Int) (q.length : Int) := by omega
  rw [hn]
  have hle := hin_le P (p[i - 1]?.getD 0) n
  rw [hbi] at hle
  obtain ⟨j, hj⟩ : ∃ j : Nat, (j : Int) = min (k : Int) (i : Int) := ⟨min k i, by omega⟩
  have hge := hin_ge P (p[i - 1]?.getD 0) n j (by omega) (by
    by_cases hz : j = 0
    · exact .inl hz
    · right
      obtain ⟨u, hu⟩ : ∃ u : Nat, j = u + 1 := ⟨j - 1, by omega⟩
      have e1 : P.tm (P.bi + (j : Int)) = eT (P.E.getD u nilEn) := by
        rw [show P.bi + (j : Int) = P.bi + 1 + (u : Int) by omega, PL.tm_ent]
      have e2 : eT (P.E.getD u nilEn) = q[u]?.getD 0 := by
        have hul : u < P.E.length := by omega
        rw [← hE, List.getElem?_map, List.getD_eq_getElem?_getD, List.getElem?_eq_getElem hul]
        rfl
      rw [e1, e2, ← hm u (by omega)]
      exact hp.mono u (i - 1) (by omega) (by omega))
  rw [hbi] at hge
  omega

end Go.Proofs.Yteekpfgjpdopmab
