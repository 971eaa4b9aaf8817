/-
  Rising lists of keys, plainly: two with the same members are one; a key put where it belongs.
-/
import Derived.Test.YtbcnpdpdflkanaaEx
namespace Go.Proofs.Ytbcnpdpdflkanaa
open Go.RowKit Go.Maps Go.Sort Go.Shelf

/-- The keys of those of the first m that count, rising. -/
structure KS (h : List Lo) (m : Nat) (ks : List Bs) : Prop where
  rise : ks.Pairwise (· < ·)
  mem : ∀ k, k ∈ ks ↔ ∃ i, i < m ∧ mine h k i = true
theorem lt_irr (a : Bs) : ¬ a < a := List.lt_irrefl a
theorem rise_uniq : ∀ (l m : List Bs), l.Pairwise (· < ·) → m.Pairwise (· < ·) → (∀ k, k ∈ l ↔ k ∈ m) → l = m
  | [], [], _, _, _ => rfl
  | [], y :: m, _, _, h => by have := (h y).2 List.mem_cons_self; cases this
  | x :: l, [], _, _, h => by have := (h x).1 List.mem_cons_self; cases this
  | x :: l, y :: m, hl, hm, h => by
    rw [List.pairwise_cons] at hl hm
    have hxy : x = y := by
      rcases List.mem_cons.1 ((h x).1 List.mem_cons_self) with e | e
      · exact e
      · rcases List.mem_cons.1 ((h y).2 List.mem_cons_self) with e2 | e2
        · exact e2.symm
        · exact absurd (List.lt_trans (hm.1 x e) (hl.1 y e2)) (lt_irr y)
    subst hxy
    rw [rise_uniq l m hl.2 hm.2 (fun k => ?_)]
    constructor
    · intro hk
      rcases List.mem_cons.1 ((h k).1 (List.mem_cons_of_mem _ hk)) with e | e
      · rw [e] at hk; exact absurd (hl.1 x hk) (lt_irr x)
      · exact e
    · intro hk
      rcases List.mem_cons.1 ((h k).2 (List.mem_cons_of_mem _ hk)) with e | e
      · rw [e] at hk; exact absurd (hm.1 x hk) (lt_irr x)
      · exact e
theorem KeysOk.ks {h : List Lo} {ks : List Bs} (hk : KeysOk h ks) : KS h h.length ks := by
  refine ⟨?_, hk.mem⟩
  have h1 := hk.rising
  have h2 := hk.nodup
  unfold List.Nodup at h2
  refine (List.Pairwise.and h1 h2).imp ?_
  intro a b hab
  have hle : a ≤ b := by have := hab.1; simpa [leB] using this
  rcases List.le_iff_lt_or_eq.1 hle with e | e
  · exact e
  · exact absurd e hab.2
theorem KS.uniq {h : List Lo} {m : Nat} {a b : List Bs} (ha : KS h m a) (hb : KS h m b) : a = b := rise_uniq a b ha.rise hb.rise (fun k => (ha.mem k).trans (hb.mem k).symm)
theorem KS.nil (h : List Lo) : KS h 0 [] := ⟨.nil, fun k => ⟨fun hk => absurd hk (by simp), fun ⟨i, hi, _⟩ => absurd hi (by omega)⟩⟩
theorem KS.skip {h : List Lo} {m : Nat} {ks : List Bs} (hk : KS h m ks) (hc : (oat h m).counts = false) : KS h (m + 1) ks := by
  refine ⟨hk.rise, fun k => (hk.mem k).trans ⟨fun ⟨i, hi, h1⟩ => ⟨i, by omega, h1⟩, fun ⟨i, hi, h1⟩ => ?_⟩⟩
  by_cases e : i = m
  · subst e; unfold mine at h1; rw [hc] at h1; simp at h1
  · exact ⟨i, by omega, h1⟩
theorem KS.there {h : List Lo} {m : Nat} {ks : List Bs} (hk : KS h m ks) (hm : (oat h m).key ∈ ks) : KS h (m + 1) ks := by
  refine ⟨hk.rise, fun k => ⟨fun hin => ?_, fun ⟨i, hi, h1⟩ => ?_⟩⟩
  · obtain ⟨i, hi, h1⟩ := (hk.mem k).1 hin; exact ⟨i, by omega, h1⟩
  · by_cases e : i = m
    · subst e; unfold mine at h1; simp only [Bool.and_eq_true, decide_eq_true_eq] at h1; rw [← h1.1]; exact hm
    · exact (hk.mem k).2 ⟨i, by omega, h1⟩
theorem KS.put {h : List Lo} {m n : Nat} {ks : List Bs} (hk : KS h m ks) (hc : (oat h m).counts = true) (h1 : ∀ j, j < n → ks.getD j [] < (oat h m).key) (hn : n ≤ ks.length) (h2 : n < ks.length → ¬ ks.getD n [] < (oat h m).key ∧ ks.getD n [] ≠ (oat h m).key) :
    KS h (m + 1) (ks.take n ++ [(oat h m).key] ++ ks.drop n) := by
  have gd : ∀ j (hj : j < ks.length), ks.getD j [] = ks[j] := fun j hj => by rw [List.getD_eq_getElem?_getD, List.getElem?_eq_getElem hj]; rfl
  have hlo : ∀ a ∈ ks.take n, a < (oat h m).key := fun a ha => by
    obtain ⟨j, hj, rfl⟩ := List.getElem_of_mem ha
    have hj' : j < n := by simp at hj; omega
    rw [List.getElem_take, ← gd j (by omega)]
    exact h1 j hj'
  have hhi : ∀ b ∈ ks.drop n, (oat h m).key < b := fun b hb => by
    obtain ⟨j, hj, rfl⟩ := List.getElem_of_mem hb
    have hj' : n + j < ks.length := by simp at hj; omega
    rw [List.getElem_drop]
    obtain ⟨g1, g2⟩ := h2 (by omega)
    have g3 : (oat h m).key < ks.getD n [] := by
      rcases List.le_iff_lt_or_eq.1 (List.not_lt.1 g1) with e | e
      · exact e
      · exact absurd e.symm g2
    by_cases e : j = 0
    · subst e; rw [gd n (by omega)] at g3; exact g3
    · have := (List.pairwise_iff_getElem.1 hk.rise) n (n + j) (by omega) hj' (by omega)
      rw [← gd n (by omega)] at this
      exact List.lt_trans g3 this
  have hsp : ks = ks.take n ++ ks.drop n := (List.take_append_drop n ks).symm
  refine ⟨?_, fun k => ?_⟩
  · have hr := hk.rise
    rw [hsp, List.pairwise_append] at hr
    rw [List.append_assoc, List.pairwise_append]
    refine ⟨hr.1, ?_, fun a ha b hb => ?_⟩
    · rw [List.singleton_append, List.pairwise_cons]; exact ⟨hhi, hr.2.1⟩
    · rcases List.mem_append.1 hb with e | e
      · rw [List.mem_singleton.1 e]; exact hlo a ha
      · exact List.lt_trans (hlo a ha) (hhi b e)
  · have hm1 : k ∈ ks.take n ++ [(oat h m).key] ++ ks.drop n ↔ (k ∈ ks ∨ k = (oat h m).key) := by
      conv => rhs; rw [hsp]
      simp only [List.mem_append, List.mem_singleton]
      constructor
      · rintro ((e | e) | e)
        · exact .inl (.inl e)
        · exact .inr e
        · exact .inl (.inr e)
      · rintro ((e | e) | e)
        · exact .inl (.inl e)
        · exact .inr e
        · exact .inl (.inr e)
    rw [hm1, hk.mem]
    constructor
    · rintro (⟨i, hi, e⟩ | e)
      · exact ⟨i, by omega, e⟩
      · exact ⟨m, by omega, by unfold mine; rw [e, hc]; simp⟩
    · rintro ⟨i, hi, e⟩
      by_cases e2 : i = m
      · subst e2; unfold mine at e; simp only [Bool.and_eq_true, decide_eq_true_eq] at e; exact .inr e.1.symm
      · exact .inl ⟨i, by omega, e⟩
end Go.Proofs.Ytbcnpdpdflkanaa
