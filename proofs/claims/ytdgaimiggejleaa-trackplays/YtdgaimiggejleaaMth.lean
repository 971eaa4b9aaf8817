/-
  What a quorum of numbers has: plain facts.
-/
import Derived.Below
namespace Go.Proofs.Ytdgaimiggejleaa

def srt (l : List Int) : List Int := l.mergeSort fun x y => decide (x ≤ y)
/-- What a quorum of the numbers has. -/
def cmt (l : List Int) : Int := if 1 ≤ l.length ∧ l.length ≤ 7 then (srt l).getD (l.length - (l.length / 2 + 1)) 0 else 0

theorem srt_perm (l : List Int) : (srt l).Perm l := List.mergeSort_perm l _
theorem srt_len (l : List Int) : (srt l).length = l.length := (srt_perm l).length_eq
theorem srt_pair (l : List Int) : (srt l).Pairwise (fun x y => x ≤ y) := by
  have := List.pairwise_mergeSort (le := fun x y : Int => decide (x ≤ y)) (by intro a b c; simp; omega) (by intro a b; simp; omega) l
  exact this.imp (by intro a b h; simpa using h)

theorem pair_at {s : List Int} (hs : s.Pairwise (fun x y => x ≤ y)) {i j : Nat} (hi : i < s.length) (hj : j < s.length) (hij : i ≤ j) : s[i] ≤ s[j] := by
  rcases Nat.lt_or_eq_of_le hij with h | h
  · exact List.pairwise_iff_getElem.1 hs i j hi hj h
  · subst h; exact Int.le_refl _

theorem count_have {s : List Int} (hs : s.Pairwise (fun x y => x ≤ y)) {k : Nat} (hk : k < s.length) : s.length - k ≤ s.countP (fun x => decide (s.getD k 0 ≤ x)) := by
  have h1 : s.countP (fun x => decide (s.getD k 0 ≤ x)) = (s.take k ++ s.drop k).countP (fun x => decide (s.getD k 0 ≤ x)) := by rw [List.take_append_drop]
  rw [h1, List.countP_append]
  have h2 : (s.drop k).countP (fun x => decide (s.getD k 0 ≤ x)) = (s.drop k).length := by
    rw [List.countP_eq_length]
    intro a ha
    obtain ⟨j, hj, rfl⟩ := List.getElem_of_mem ha
    simp only [List.length_drop] at hj
    have := pair_at hs hk (j := k + j) (by omega) (by omega)
    simp [List.getD_eq_getElem?_getD, List.getElem?_eq_getElem hk]
    exact this
  rw [h2, List.length_drop]
  omega

theorem count_above {s : List Int} (hs : s.Pairwise (fun x y => x ≤ y)) {k : Nat} (hk : k < s.length) : s.countP (fun x => decide (s.getD k 0 < x)) ≤ s.length - (k + 1) := by
  have h1 : s.countP (fun x => decide (s.getD k 0 < x)) = (s.take (k + 1) ++ s.drop (k + 1)).countP (fun x => decide (s.getD k 0 < x)) := by rw [List.take_append_drop]
  rw [h1, List.countP_append]
  have h2 : (s.take (k + 1)).countP (fun x => decide (s.getD k 0 < x)) = 0 := by
    rw [List.countP_eq_zero]
    intro a ha
    obtain ⟨j, hj, rfl⟩ := List.getElem_of_mem ha
    simp only [List.length_take] at hj
    have := pair_at hs (i := j) (j := k) (by omega) hk (by omega)
    simp [List.getD_eq_getElem?_getD, List.getElem?_eq_getElem hk]
    exact this
  have h3 : (s.drop (k + 1)).countP (fun x => decide (s.getD k 0 < x)) ≤ (s.drop (k + 1)).length := List.countP_le_length
  rw [List.length_drop] at h3
  omega

theorem cmt_have {l : List Int} (h1 : 1 ≤ l.length) (h7 : l.length ≤ 7) : l.length / 2 + 1 ≤ l.countP (fun x => decide (cmt l ≤ x)) := by
  have hl := srt_len l
  have h := count_have (srt_pair l) (k := l.length - (l.length / 2 + 1)) (by omega)
  have hp := (srt_perm l).countP_eq (fun x => decide (cmt l ≤ x))
  have he : cmt l = (srt l).getD (l.length - (l.length / 2 + 1)) 0 := if_pos ⟨h1, h7⟩
  rw [← hp, he]
  omega

theorem cmt_above {l : List Int} (h1 : 1 ≤ l.length) (h7 : l.length ≤ 7) : l.countP (fun x => decide (cmt l < x)) < l.length / 2 + 1 := by
  have hl := srt_len l
  have h := count_above (srt_pair l) (k := l.length - (l.length / 2 + 1)) (by omega)
  have hp := (srt_perm l).countP_eq (fun x => decide (cmt l < x))
  have he : cmt l = (srt l).getD (l.length - (l.length / 2 + 1)) 0 := if_pos ⟨h1, h7⟩
  rw [← hp, he]
  omega

theorem cmt_mem {l : List Int} (h1 : 1 ≤ l.length) (h7 : l.length ≤ 7) : cmt l ∈ l := by
  have hl := srt_len l
  have he : cmt l = (srt l).getD (l.length - (l.length / 2 + 1)) 0 := if_pos ⟨h1, h7⟩
  have hk : l.length - (l.length / 2 + 1) < (srt l).length := by omega
  rw [he, List.getD_eq_getElem?_getD, List.getElem?_eq_getElem hk]
  exact (srt_perm l).subset (List.getElem_mem hk)

/-- Nothing above it is had by a quorum. -/
theorem cmt_top {l : List Int} (h1 : 1 ≤ l.length) (h7 : l.length ≤ 7) {x : Int} (hx : l.length / 2 + 1 ≤ l.countP (fun y => decide (x ≤ y))) : x ≤ cmt l := by
  rcases Int.lt_or_le (cmt l) x with h | h
  · have h2 := cmt_above h1 h7
    have h3 : l.countP (fun y => decide (x ≤ y)) ≤ l.countP (fun y => decide (cmt l < y)) := List.countP_mono_left (fun y _ hy => by simp at hy ⊢; omega)
    omega
  · exact h

theorem cmt_perm {l m : List Int} (h : l.Perm m) : cmt l = cmt m := by
  have hl := h.length_eq
  by_cases hr : 1 ≤ l.length ∧ l.length ≤ 7
  · have a := cmt_have hr.1 hr.2
    have b := cmt_have (l := m) (by omega) (by omega)
    rw [h.countP_eq] at a
    rw [← h.countP_eq] at b
    exact Int.le_antisymm (cmt_top (by omega) (by omega) (by omega)) (cmt_top hr.1 hr.2 (by omega))
  · rw [cmt, cmt, if_neg hr, if_neg (by omega)]

theorem count_le {c : Int} : ∀ {l m : List Int}, l.length = m.length → (∀ i, l.getD i 0 ≤ m.getD i 0) → l.countP (fun x => decide (c ≤ x)) ≤ m.countP (fun x => decide (c ≤ x))
  | [], [], _, _ => Nat.le_refl _
  | x :: l, y :: m, hl, h => by
    have h0 : x ≤ y := by simpa using h 0
    have ht := count_le (c := c) (l := l) (m := m) (by simpa using hl) (fun i => by simpa using h (i + 1))
    rw [List.countP_cons, List.countP_cons]
    by_cases hx : c ≤ x
    · have hy : c ≤ y := by omega
      simp [hx, hy]; omega
    · by_cases hy : c ≤ y <;> simp [hx, hy] <;> omega

theorem cmt_le {l m : List Int} (hl : l.length = m.length) (h : ∀ i, l.getD i 0 ≤ m.getD i 0) : cmt l ≤ cmt m := by
  by_cases hr : 1 ≤ l.length ∧ l.length ≤ 7
  · refine cmt_top (by omega) (by omega) ?_
    have a := cmt_have hr.1 hr.2
    have b := count_le (c := cmt l) hl h
    omega
  · rw [cmt, cmt, if_neg hr, if_neg (by omega)]; exact Int.le_refl _
end Go.Proofs.Ytdgaimiggejleaa
