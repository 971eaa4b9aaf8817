/-
  Lists as one, plainly: the rounds of Merge, and all places one behind the other.
-/
import Derived.Test.YtgonbicpehjogaaGreatDoorMa
namespace Go.Proofs.YtgonbicpehjogaaGreatDoor
set_option linter.unusedVariables false
section
variable {α : Type}
/-- The acts at a place. -/
def colM (k : Nat) (ls : List (List α)) : List α := ls.filterMap (fun l => l[k]?)
/-- What goes on behind r rounds. -/
def restM (ls : List (List α)) : List (List α) := (ls.filter (fun l => decide (0 < l.length))).map (·.drop 1)
def restN : Nat → List (List α) → List (List α)
  | 0, ls => ls
  | r + 1, ls => restM (restN r ls)
theorem col_rest (k : Nat) (ls : List (List α)) : colM k (restM ls) = colM (k + 1) ls := by
  unfold colM restM
  rw [List.filterMap_map]
  induction ls with
  | nil => rfl
  | cons l ls ih =>
    rw [List.filter_cons]
    split
    · rename_i h
      rw [List.filterMap_cons, List.filterMap_cons, ih]
      simp
    · rename_i h
      have hl : l = [] := by
        cases l with
        | nil => rfl
        | cons x l => simp at h
      rw [List.filterMap_cons, ih, hl]
      rfl
theorem col_restN : ∀ (r k : Nat) (ls : List (List α)), colM k (restN r ls) = colM (k + r) ls
  | 0, k, ls => rfl
  | r + 1, k, ls => by
    show colM k (restM (restN r ls)) = _
    rw [col_rest, col_restN r (k + 1) ls]
    congr 1
    omega
/-- The acts of r rounds. -/
def roundsM (r : Nat) (ls : List (List α)) : List α := (List.range r).flatMap (fun k => colM k ls)
theorem rounds_succ (r : Nat) (ls : List (List α)) : roundsM (r + 1) ls = roundsM r ls ++ colM 0 (restN r ls) := by
  unfold roundsM
  rw [List.range_succ, List.flatMap_append, col_restN]
  simp
theorem col_nil (k : Nat) : colM k ([] : List (List α)) = [] := rfl
theorem rounds_end {r : Nat} {ls : List (List α)} (h : restN r ls = []) : ∀ n, r ≤ n → roundsM n ls = roundsM r ls := by
  intro n hn
  induction n with
  | zero => rw [show r = 0 by omega]
  | succ n ih =>
    by_cases e : r = n + 1
    · rw [e]
    · rw [← ih (by omega)]
      have hc : colM n ls = [] := by
        have := col_restN r (n - r) ls
        rw [h, col_nil, show n - r + r = n by omega] at this
        exact this.symm
      unfold roundsM
      rw [List.range_succ, List.flatMap_append]
      simp [hc]
theorem rest_lens (r : Nat) (ls : List (List α)) (h : ∀ l ∈ ls, l.length < r) (hr : 0 < r) : restN r ls = [] := by
  have key : ∀ r, ∀ l ∈ restN r ls, ∃ m ∈ ls, r ≤ m.length ∧ l.length + r = m.length := by
    intro r
    induction r with
    | zero => intro l hl; exact ⟨l, hl, Nat.zero_le _, rfl⟩
    | succ r ih =>
      intro l hl
      obtain ⟨m, hm, rfl⟩ := List.mem_map.1 hl
      obtain ⟨hm1, hm2⟩ := List.mem_filter.1 hm
      obtain ⟨q, hq, h1, h2⟩ := ih m hm1
      have hm2' : 0 < m.length := by simpa using hm2
      exact ⟨q, hq, by omega, by rw [List.length_drop]; omega⟩
  cases hrr : restN r ls with
  | nil => rfl
  | cons l t =>
    obtain ⟨m, hm, h1, _⟩ := key r l (by rw [hrr]; exact List.mem_cons_self ..)
    have := h m hm
    omega
/-- All places up to n are all rounds. -/
theorem rounds_all {r n : Nat} {ls : List (List α)} (h : restN r ls = []) (hl : ∀ l ∈ ls, l.length ≤ n) : roundsM n ls = roundsM r ls := by
  by_cases hrn : r ≤ n
  · exact rounds_end h n hrn
  · have hz : restN (n + 1) ls = [] := rest_lens (n + 1) ls (fun l hm => by have := hl l hm; omega) (by omega)
    have h1 := rounds_end hz r (by omega)
    have h2 : roundsM (n + 1) ls = roundsM n ls := by
      have hc : colM n ls = [] := by
        unfold colM
        rw [List.filterMap_eq_nil_iff]
        intro l hm
        rw [List.getElem?_eq_none (hl l hm)]
      unfold roundsM
      rw [List.range_succ, List.flatMap_append]
      simp [hc]
    rw [h1, h2]
/-- All acts of the lists. -/
def sumM : List (List α) → Nat
  | [] => 0
  | l :: ls => l.length + sumM ls
theorem sum_col (ls : List (List α)) : (colM 0 ls).length + sumM (restM ls) = sumM ls := by
  induction ls with
  | nil => rfl
  | cons l ls ih =>
    unfold colM restM at *
    rw [List.filterMap_cons, List.filter_cons]
    cases l with
    | nil => simpa [sumM] using ih
    | cons x l => simp [sumM] at ih ⊢; omega
theorem sum_rounds (ls : List (List α)) (r : Nat) : (roundsM r ls).length + sumM (restN r ls) = sumM ls := by
  induction r with
  | zero => simp [roundsM, restN]
  | succ r ih =>
    rw [rounds_succ, List.length_append, restN]
    have := sum_col (restN r ls)
    omega
theorem col_take_le (k i : Nat) (ls : List (List α)) : (colM k (ls.take i)).length ≤ (colM k ls).length := by
  have h : colM k ls = colM k (ls.take i) ++ colM k (ls.drop i) := by unfold colM; rw [← List.filterMap_append, List.take_append_drop]
  rw [h, List.length_append]; omega
theorem sum_take_le (i : Nat) (ls : List (List α)) : sumM (ls.take i) ≤ sumM ls := by
  induction ls generalizing i with
  | nil => simp
  | cons l ls ih =>
    cases i with
    | zero => simp [sumM]
    | succ i => simp only [List.take_succ_cons, sumM]; have := ih i; omega
theorem len_le_sum {ls : List (List α)} {l : List α} (h : l ∈ ls) : l.length ≤ sumM ls := by
  induction ls with
  | nil => cases h
  | cons m ls ih =>
    rcases List.mem_cons.1 h with rfl | h
    · simp [sumM]
    · have := ih h; simp [sumM]; omega
/-- A list at a place. -/
def lat (ls : List (List α)) (i : Nat) : List α := ls.getD i []
theorem take_lat {ls : List (List α)} {i : Nat} (h : i < ls.length) : ls.take (i + 1) = ls.take i ++ [lat ls i] := by
  unfold lat
  rw [List.take_add_one, List.getElem?_eq_getElem h, List.getD_eq_getElem?_getD, List.getElem?_eq_getElem h]
  rfl
theorem lat_mem {ls : List (List α)} {i : Nat} (h : i < ls.length) : lat ls i ∈ ls := by
  unfold lat
  rw [List.getD_eq_getElem?_getD, List.getElem?_eq_getElem h]
  exact List.getElem_mem h
theorem col_snoc (k : Nat) (ls : List (List α)) (l : List α) : colM k (ls ++ [l]) = colM k ls ++ (l[k]?).toList := by
  unfold colM
  rw [List.filterMap_append, List.filterMap_cons]
  cases l[k]? <;> rfl
theorem rest_snoc (ls : List (List α)) (l : List α) : restM (ls ++ [l]) = restM ls ++ (if 0 < l.length then [l.drop 1] else []) := by
  unfold restM
  rw [List.filter_append, List.map_append, List.filter_cons]
  by_cases h : 0 < l.length <;> simp [h]
/-- Elements of what is left are ends of the lists. -/
theorem rest_mem {r : Nat} {ls : List (List α)} {l : List α} (h : l ∈ restN r ls) : ∃ m ∈ ls, ∀ x ∈ l, x ∈ m := by
  induction r generalizing l with
  | zero => exact ⟨l, h, fun x hx => hx⟩
  | succ r ih =>
    obtain ⟨m, hm, rfl⟩ := List.mem_map.1 h
    obtain ⟨q, hq, h1⟩ := ih (List.mem_filter.1 hm).1
    exact ⟨q, hq, fun x hx => h1 x (List.mem_of_mem_drop hx)⟩
theorem rest_len_le (r : Nat) (ls : List (List α)) : (restN r ls).length ≤ ls.length := by
  induction r with
  | zero => exact Nat.le_refl _
  | succ r ih =>
    show (restM (restN r ls)).length ≤ _
    unfold restM
    rw [List.length_map]
    exact Nat.le_trans (List.length_filter_le _ _) ih
end
end Go.Proofs.YtgonbicpehjogaaGreatDoor
