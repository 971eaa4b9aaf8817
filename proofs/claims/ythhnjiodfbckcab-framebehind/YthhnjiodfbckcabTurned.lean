/-
  One byte of a frame is another one: it is no frame any more.
-/
import Derived.Test.YthhnjiodfbckcabFact
namespace Go.Proofs.Ythhnjiodfbckcab

theorem word4_take (r : List UInt8) (k : Nat) (h : 4 ≤ k) : word4 (r.take k) = word4 r := by
  have e : ∀ i, i < 4 → at0 (r.take k) i = at0 r i := by
    intro i hi
    unfold at0
    rw [List.getElem?_take, if_pos (by omega)]
  unfold word4
  rw [e 0 (by omega), e 1 (by omega), e 2 (by omega), e 3 (by omega)]

theorem set_same {l : List UInt8} {j : Nat} {c : UInt8} (hj : j < l.length) (h : l.set j c = l) : c = l[j]?.getD 0 := by
  have : (l.set j c)[j]? = l[j]? := by rw [h]
  rw [List.getElem?_set_self hj] at this
  rw [← this]; rfl

theorem crc_set (m l : List UInt8) (k : Nat) (c : UInt8) (hk : k < l.length) (hc : c ≠ l[k]?.getD 0) : crc (m ++ l.set k c) ≠ crc (m ++ l) := by
  have e1 : l.set k c = l.take k ++ c :: l.drop (k + 1) := List.set_eq_take_append_cons_drop.trans (by rw [if_pos hk])
  have e2 : l = l.take k ++ l[k]'hk :: l.drop (k + 1) := by rw [← List.drop_eq_getElem_cons hk, List.take_append_drop]
  intro h
  rw [e1] at h
  have h2 : crc (m ++ l) = crc ((m ++ l.take k) ++ l[k]'hk :: l.drop (k + 1)) := by rw [List.append_assoc, ← e2]
  rw [h2, ← List.append_assoc] at h
  rw [List.getElem?_eq_getElem hk] at hc
  exact crc_spoilt (m ++ l.take k) (l.drop (k + 1)) hc h

theorem getFront_ok (r : List UInt8) (h : (getFront r).2.2 = 0) : 8 + word4 r ≤ r.length ∧ word4 (r.drop 4) = crc (r.take 4 ++ (r.drop 8).take (word4 r)) ∧ (getFront r).2.1 = 8 + word4 r := by
  unfold getFront at h ⊢
  by_cases h1 : r.length < 4
  · rw [if_pos h1] at h; simp at h
  · rw [if_neg h1] at h ⊢
    by_cases h2 : 1048576 < word4 r
    · rw [if_pos h2] at h; simp at h
    · rw [if_neg h2] at h ⊢
      by_cases h3 : r.length < 8 + word4 r
      · rw [if_pos h3] at h; simp at h
      · rw [if_neg h3] at h ⊢
        by_cases h4 : word4 (r.drop 4) ≠ crc (r.take 4 ++ (r.drop 8).take (word4 r))
        · rw [if_pos h4] at h; simp at h
        · rw [if_neg h4]
          exact ⟨by omega, by simpa using h4, rfl⟩

theorem oneOf_spoilt (p : List UInt8) (hp : p.length ≤ 1048576) (j : Nat) (c : UInt8) (hj : j < 8 + p.length) (hc : c ≠ (frameB p)[j]?.getD 0) : (oneOf ((frameB p).set j c)).2 ≠ 0 := by
  intro h
  have hg0 : ∀ g : List UInt8, getAt g 0 = getFront g := by intro g; unfold getAt; rw [if_neg (by omega)]; simp
  have hf : getFront (frameB p) = (p, 8 + p.length, 0) := by have := getFront_frame p [] hp; simpa using this
  have hfo := getFront_ok (frameB p) (by rw [hf])
  rw [hf] at hfo
  have hfw : word4 (frameB p) = p.length := by have := hfo.2.2; simp only at this; omega
  have hlen := frameB_len p
  generalize frameB p = f at *
  have hgl : (f.set j c).length = 8 + p.length := by rw [List.length_set, hlen]
  unfold oneOf at h
  rw [hg0] at h
  have h1 : (getFront (f.set j c)).2.2 = 0 ∧ ¬ (getFront (f.set j c)).2.1 < (f.set j c).length := by
    by_cases hcd : (getFront (f.set j c)).2.2 = 0 ∧ (getFront (f.set j c)).2.1 < (f.set j c).length
    · rw [if_pos hcd] at h; simp at h
    · rw [if_neg hcd] at h
      exact ⟨h, fun q => hcd ⟨h, q⟩⟩
  obtain ⟨g1, g2, g3⟩ := getFront_ok _ h1.1
  have hgw : word4 (f.set j c) = p.length := by rw [g3] at h1; omega
  rw [hgw] at g2
  have f2 := hfo.2.1
  rw [hfw] at f2
  have hd8 : (f.drop 8).take p.length = f.drop 8 := List.take_of_length_le (by simp; omega)
  have hd8g : ((f.set j c).drop 8).take p.length = (f.set j c).drop 8 := List.take_of_length_le (by simp; omega)
  rw [hd8] at f2
  rw [hd8g] at g2
  by_cases j4 : j < 4
  · have e : word4 ((f.set j c).take 4) = word4 (f.take 4) := by rw [word4_take _ 4 (Nat.le_refl _), word4_take _ 4 (Nat.le_refl _), hgw, hfw]
    have e2 := word4_inj (by simp; omega) (by simp; omega) e
    rw [List.take_set] at e2
    have := set_same (by simp; omega) e2
    rw [List.getElem?_take, if_pos j4] at this
    exact hc this
  · have t4 : (f.set j c).take 4 = f.take 4 := List.take_set_of_le (by omega)
    have d4 : (f.set j c).drop 4 = (f.drop 4).set (j - 4) c := by rw [List.drop_set, if_neg (by omega)]
    rw [t4, d4] at g2
    by_cases j8 : j < 8
    · have d8 : (f.set j c).drop 8 = f.drop 8 := List.drop_set_of_lt j8
      rw [d8, ← f2] at g2
      have e : word4 (((f.drop 4).set (j - 4) c).take 4) = word4 ((f.drop 4).take 4) := by rw [word4_take _ 4 (Nat.le_refl _), word4_take _ 4 (Nat.le_refl _), g2]
      have e2 := word4_inj (by simp; omega) (by simp; omega) e
      rw [List.take_set] at e2
      have := set_same (by simp; omega) e2
      rw [List.getElem?_take, if_pos (by omega), List.getElem?_drop, show 4 + (j - 4) = j by omega] at this
      exact hc this
    · have d8 : (f.set j c).drop 8 = (f.drop 8).set (j - 8) c := by rw [List.drop_set, if_neg j8]
      have e : word4 ((f.drop 4).set (j - 4) c) = word4 (f.drop 4) := by
        rw [← word4_take ((f.drop 4).set (j - 4) c) 4 (Nat.le_refl _), List.take_set_of_le (by omega), word4_take _ 4 (Nat.le_refl _)]
      rw [d8, e, f2] at g2
      refine crc_set (f.take 4) (f.drop 8) (j - 8) c (by simp; omega) ?_ g2.symm
      rw [List.getElem?_drop, show 8 + (j - 8) = j by omega]
      exact hc
end Go.Proofs.Ythhnjiodfbckcab
