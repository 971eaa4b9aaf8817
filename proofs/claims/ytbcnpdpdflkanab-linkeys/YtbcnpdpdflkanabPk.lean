/-
  The operations of one key alone, plainly.
-/
import Derived.Test.YtbcnpdpdflkanabPt
namespace Go.Proofs.Ytbcnpdpdflkanab
open Go.RowKit

def hasKey (k : Bs) (x : Lo) : Bool := decide (x.key = k)
/-- The places of the operations of a key. -/
def atL (h : List Lo) (k : Bs) (n : Nat) : List Nat := (List.range n).filter fun i => hasKey k (oat h i)
/-- These operations. -/
def oneL (h : List Lo) (k : Bs) (n : Nat) : List Lo := (atL h k n).map (oat h)
theorem atL_succ (h : List Lo) (k : Bs) (n : Nat) : atL h k (n + 1) = if hasKey k (oat h n) then atL h k n ++ [n] else atL h k n := by
  unfold atL
  rw [List.range_succ, List.filter_append]
  by_cases e : hasKey k (oat h n) = true
  · simp [e]
  · simp [e]
theorem oneL_succ (h : List Lo) (k : Bs) (n : Nat) : oneL h k (n + 1) = if hasKey k (oat h n) then oneL h k n ++ [oat h n] else oneL h k n := by
  unfold oneL
  rw [atL_succ]
  split
  · simp
  · rfl
theorem one_filter (h : List Lo) (k : Bs) : oneL h k h.length = h.filter (hasKey k) := by
  unfold oneL atL
  conv => rhs; rw [← range_map h, List.filter_map]
  rfl
theorem one_ops (h : List Lo) (k : Bs) : (oneL h k h.length).filter (isOf k) = h.filter (isOf k) := by
  rw [one_filter, List.filter_filter]
  apply List.filter_congr
  intro x _
  unfold isOf hasKey
  cases decide (x.key = k) <;> simp
theorem one_other (h : List Lo) (k k' : Bs) (hne : k' ≠ k) : (oneL h k h.length).filter (isOf k') = [] := by
  rw [one_filter, List.filter_filter, List.filter_eq_nil_iff]
  intro x _
  unfold isOf hasKey
  simp only [Bool.and_eq_true, decide_eq_true_eq, not_and]
  intro h1 h2
  exact hne (h1.1.symm.trans h2)
theorem one_valid {h : List Lo} (hv : valid h = 0) (k : Bs) : valid (oneL h k h.length) = 0 := by
  rw [valid_iff] at *
  refine ⟨?_, fun x hx => ?_, fun k' => ?_⟩
  · rw [one_filter]; have := List.length_filter_le (hasKey k) h; omega
  · rw [one_filter] at hx; exact hv.2.1 x (List.mem_filter.1 hx).1
  · by_cases e : k' = k
    · subst e; rw [one_ops]; exact hv.2.2 k'
    · rw [one_other h k k' e]; simp
theorem one_expl (h : List Lo) (k : Bs) : opsOf (oneL h k h.length) k = opsOf h k := by rw [opsOf_filter, opsOf_filter, one_ops]
theorem atL_lt {h : List Lo} {k : Bs} {n i : Nat} (hi : i ∈ atL h k n) : i < n := List.mem_range.1 (List.mem_filter.1 hi).1
theorem one_oat {h : List Lo} {k : Bs} {n j : Nat} (hj : j < (atL h k n).length) : oat (oneL h k n) j = oat h ((atL h k n).getD j 0) := by
  unfold oneL oat
  rw [List.getElem?_map, List.getElem?_eq_getElem hj, List.getD_eq_getElem?_getD, List.getElem?_eq_getElem hj]
  rfl
theorem nat_range_map (l : List Nat) : (List.range l.length).map (fun j => l.getD j 0) = l := by
  apply List.ext_getElem (by simp)
  intro i h1 h2
  simp [List.getD_eq_getElem?_getD, List.getElem?_eq_getElem h2]
theorem one_len (h : List Lo) (k : Bs) (n : Nat) : (oneL h k n).length = (atL h k n).length := by simp [oneL]
theorem nums_at (h : List Lo) (k : Bs) : nums h k = (nums (oneL h k h.length) k).map (fun j => (atL h k h.length).getD j 0) := by
  have h1 : nums h k = (atL h k h.length).filter (fun i => (oat h i).counts) := by
    unfold nums atL mine hasKey
    rw [List.filter_filter]
    apply List.filter_congr
    intro i _
    rw [Bool.and_comm]
  rw [h1]
  conv => lhs; rw [← nat_range_map (atL h k h.length), List.filter_map]
  unfold nums
  rw [one_len]
  congr 1
  apply List.filter_congr
  intro j hj
  have hj' := List.mem_range.1 hj
  have hm : (atL h k h.length).getD j 0 ∈ atL h k h.length := by
    rw [List.getD_eq_getElem?_getD, List.getElem?_eq_getElem hj']; exact List.getElem_mem hj'
  have hk := (List.mem_filter.1 hm).2
  unfold mine
  rw [one_oat hj']
  unfold hasKey at hk
  simp only [Function.comp_apply]
  rw [hk]; simp
theorem expl_lt {ops : List Lo} : ∀ (p : List Nat) (D : Nat → Bool) (th : Bool) (v : Bs), Path ops D th v p → ∀ i ∈ p, i < ops.length
  | [], _, _, _, _, i, hi => by cases hi
  | j :: q, D, th, v, hp, i, hi => by
    rcases List.mem_cons.1 hi with e | e
    · rw [e]; exact hp.1
    · exact expl_lt q _ _ _ hp.2.2 i e
/-- What is explained of a key is the same, with other numbers. -/
theorem one_explain (h : List Lo) (k : Bs) : explain h k = (explain (oneL h k h.length) k).map fun l => l.map fun j => (atL h k h.length).getD j 0 := by
  unfold explain
  rw [one_expl]
  have hI := expl_isL (opsOf h k)
  cases he : expl (opsOf h k) with
  | none => rfl
  | some p =>
    simp only [Option.map_some]
    congr 1
    rw [List.map_map]
    apply List.map_congr_left
    intro i hi
    rw [he] at hI
    have hlt := expl_lt p _ _ _ hI.path i hi
    rw [← one_expl] at hlt
    have hlt2 : i < (nums (oneL h k h.length) k).length := by
      unfold opsOf at hlt
      simpa using hlt
    simp only [Function.comp_apply]
    conv => lhs; rw [nums_at h k]
    rw [List.getElem?_map, List.getElem?_eq_getElem hlt2]
    rfl
theorem explain_in {h : List Lo} {k : Bs} {l : List Nat} (he : explain h k = some l) : ∀ i ∈ l, i < h.length := by
  intro i hi
  unfold explain at he
  rw [Option.map_eq_some_iff] at he
  obtain ⟨p, hp, rfl⟩ := he
  obtain ⟨j, hj, rfl⟩ := List.mem_map.1 hi
  have hI := expl_isL (opsOf h k)
  rw [hp] at hI
  have hlt := expl_lt p _ _ _ hI.path j hj
  have hlt2 : j < (nums h k).length := by unfold opsOf at hlt; simpa using hlt
  rw [List.getElem?_eq_getElem hlt2]
  exact nums_lt _ (List.getElem_mem hlt2)
theorem one_judged {h : List Lo} {k : Bs} (hk : ∃ i, i < h.length ∧ mine h k i = true) : judged (oneL h k h.length) = (explain h k).isSome := by
  rw [Bool.eq_iff_iff, judged_iff]
  obtain ⟨i, hi, hm⟩ := hk
  unfold mine at hm
  simp only [Bool.and_eq_true, decide_eq_true_eq] at hm
  have hex : ∀ k', k' = k → (expl ((oneL h k h.length).filter (isOf k'))).isSome = (explain h k).isSome := fun k' e => by
    rw [e, one_ops, explain_some]
  constructor
  · intro hall
    have h1 : oat h i ∈ oneL h k h.length := by
      rw [one_filter]
      exact List.mem_filter.2 ⟨oat_mem hi, by unfold hasKey; simpa using hm.1⟩
    have := hall _ h1 hm.2
    rwa [hex _ hm.1] at this
  · intro hs x hx _
    rw [one_filter] at hx
    have := (List.mem_filter.1 hx).2
    unfold hasKey at this
    rw [hex _ (by simpa using this)]
    exact hs
theorem one_check {h : List Lo} {k : Bs} (hv : valid h = 0) (hk : ∃ i, i < h.length ∧ mine h k i = true) : checkE (oneL h k h.length) = (explain h k).isSome := by
  unfold checkE
  rw [one_valid hv, one_judged hk]; simp
theorem one_same (h : List Lo) (k : Bs) : (explain (oneL h k h.length) k).isSome = (explain h k).isSome := by
  rw [one_explain h k]; simp
end Go.Proofs.Ytbcnpdpdflkanab
