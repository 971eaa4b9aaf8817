/-
  Copies of histories.
-/
import Derived.Test.YtbcnpdpdflkanaaOo
namespace Go.Proofs.Ytbcnpdpdflkanaa
open Go.RowKit

/-- Operations one behind the other at a place. -/
def HRun (w : World) (b off : Nat) (l : List Lo) : Prop := ∀ i, i < l.length → OpAt w b (off + i * 10) (oat l i)
def opC (l : List Lo) : List Value := l.flatMap fun x => x.cells.toList
theorem opC_len (l : List Lo) : (opC l).length = l.length * 10 := flat_len (fun x : Lo => x.cells.toList) (fun _ => rfl) l
theorem opC_app (l m : List Lo) : opC (l ++ m) = opC l ++ opC m := List.flatMap_append
theorem OpAt.cell {w : World} {b o : Nat} {x : Lo} (h : OpAt w b o x) (r : Nat) (hr : r < 10) (u : Value) (hu : x.cells.toList[r]? = some u) : w.cell? ⟨b, o + r, none⟩ = some u := by
  obtain ⟨c0, c1, c2, c3, c4, c5, c6, c7, c8, c9⟩ := h
  have h10 : r = 0 ∨ r = 1 ∨ r = 2 ∨ r = 3 ∨ r = 4 ∨ r = 5 ∨ r = 6 ∨ r = 7 ∨ r = 8 ∨ r = 9 := by omega
  rcases h10 with rfl | rfl | rfl | rfl | rfl | rfl | rfl | rfl | rfl | rfl
  all_goals (simp only [Lo.cells] at hu; simp at hu; subst hu; assumption)
theorem HRun.news {w : World} {b off : Nat} {l : List Lo} (h : HRun w b off l) : ∀ j u, (opC l)[j]? = some u → w.cell? ((⟨b, off, none⟩ : Addr).add j) = some u := by
  intro j u hj
  have hlt : j < (opC l).length := by
    rcases Nat.lt_or_ge j (opC l).length with h1 | h1
    · exact h1
    · rw [List.getElem?_eq_none h1] at hj; cases hj
  rw [opC_len] at hlt
  have hi : j / 10 < l.length := by omega
  have hg := flat_get (fun x : Lo => x.cells.toList) (sz := 10) (fun _ => rfl) l (j / 10) (j % 10) hi (by omega)
  rw [show j / 10 * 10 + j % 10 = j by omega] at hg
  have ho : oat l (j / 10) = l[j / 10] := by unfold oat; rw [List.getElem?_eq_getElem hi]; rfl
  have := (h (j / 10) hi).cell (j % 10) (by omega) u (by rw [ho]; rw [← hg]; exact hj)
  rw [Addr.add_lit]
  rw [show off + j / 10 * 10 + j % 10 = off + j by omega] at this
  exact this
theorem HRun.take {w : World} {b off : Nat} {l : List Lo} (h : HRun w b off l) (n : Nat) : HRun w b off (l.take n) := fun i hi => by
  have hi' : i < l.length ∧ i < n := by simp at hi; omega
  have : oat (l.take n) i = oat l i := by unfold oat; rw [List.getElem?_take, if_pos hi'.2]
  rw [this]; exact h i hi'.1
theorem HRun.drop {w : World} {b off : Nat} {l : List Lo} (h : HRun w b off l) (n : Nat) : HRun w b (off + n * 10) (l.drop n) := fun i hi => by
  have hi' : n + i < l.length := by simp at hi; omega
  have : oat (l.drop n) i = oat l (n + i) := by unfold oat; rw [List.getElem?_drop]
  rw [this, show off + n * 10 + i * 10 = off + (n + i) * 10 by omega]; exact h (n + i) hi'
theorem HAt.run {N : Nat} {w : World} {a : Option Addr} {h : List Lo} (hA : HAt N w a h) (hl : 0 < h.length) : ∃ b off, a = some ⟨b, off, none⟩ ∧ b < N ∧ HRun w b off h := by
  rcases hA with rfl | ⟨b, off, rfl, hb, hc⟩
  · simp at hl
  · exact ⟨b, off, rfl, hb, hc⟩
theorem HRun.below {N : Nat} {w w' : World} {b off : Nat} {l : List Lo} (h : HRun w b off l) (hB : Below N w w') (hb : b < N) : HRun w' b off l := fun i hi => (h i hi).same (fun o => hB.cell (p := ⟨b, o, none⟩) hb)
theorem opC_one (l : List Lo) : ∀ u ∈ opC l, u.oneCell' = true := by
  intro u hu
  obtain ⟨x, -, hx⟩ := List.mem_flatMap.1 hu
  exact lo_one x u hx
/-- An empty list of the call's own. -/
theorem own_empty (w : World) {N : Nat} (hN : N ≤ w.heap.size) : (w.alloc (.cells #[] 35)).ownsRow N 35 10 (.slice (some ⟨w.heap.size, 0, none⟩) 0 0) 0 [] := World.ownsRow_lit w #[] 0 hN (by decide) rfl
/-- A cell of an operation turned. -/
theorem opC_set (l : List Lo) (i r : Nat) (_hi : i < l.length) (y : Lo) (u : Value) (hr : r < 10) (hy : y.cells.toList = (oat l i).cells.toList.set r u) : (opC l).set (i * 10 + r) u = opC (l.set i y) := by
  have ho : ∀ (m : List Lo) (k : Nat) (hk : k < m.length), m[k] = oat m k := fun m k hk => by unfold oat; rw [List.getElem?_eq_getElem hk]; rfl
  apply List.ext_getElem?
  intro j
  by_cases hj : j < l.length * 10
  · have hq : j / 10 < l.length := by omega
    have e2 : (opC (l.set i y))[j]? = ((l.set i y)[j / 10]'(by simpa using hq)).cells.toList[j % 10]? := by
      have := flat_get (fun x : Lo => x.cells.toList) (sz := 10) (fun _ => rfl) (l.set i y) (j / 10) (j % 10) (by simpa using hq) (by omega)
      rw [show j / 10 * 10 + j % 10 = j by omega] at this
      exact this
    have e1 : (opC l)[j]? = (l[j / 10]).cells.toList[j % 10]? := by
      have := flat_get (fun x : Lo => x.cells.toList) (sz := 10) (fun _ => rfl) l (j / 10) (j % 10) hq (by omega)
      rw [show j / 10 * 10 + j % 10 = j by omega] at this
      exact this
    rw [e2, List.getElem?_set, opC_len]
    by_cases e : i = j / 10
    · have hs : (l.set i y)[j / 10]'(by simpa using hq) = y := by simp [e]
      rw [hs, hy, List.getElem?_set]
      have hlo : (oat l i).cells.toList.length = 10 := rfl
      have e1' : (opC l)[j]? = (oat l i).cells.toList[j % 10]? := by rw [e1, ho l _ hq, e]
      rw [e1', hlo]
      by_cases e3 : r = j % 10
      · rw [if_pos (by omega), if_pos e3, if_pos (by omega), if_pos (by omega)]
      · rw [if_neg (by omega), if_neg e3]
    · have hs : (l.set i y)[j / 10]'(by simpa using hq) = l[j / 10] := by rw [List.getElem_set]; simp [e]
      rw [hs, if_neg (by omega), e1]
  · rw [List.getElem?_eq_none (by rw [List.length_set, opC_len]; omega), List.getElem?_eq_none (by rw [opC_len, List.length_set]; omega)]
end Go.Proofs.Ytbcnpdpdflkanaa
