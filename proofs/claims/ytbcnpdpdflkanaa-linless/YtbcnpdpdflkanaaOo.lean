/-
  Operations of the call's own.
-/
import Derived.Test.YtbcnpdpdflkanaaRin
namespace Go.Proofs.Ytbcnpdpdflkanaa
open Go.RowKit

/-- Operations of the call's own. -/
def OOw (N : Nat) (w : World) (v : Value) (l : List Lo) : Prop := w.ownsRow N 35 10 v l.length (l.flatMap fun x => x.cells.toList)
theorem OOw.hat {N M : Nat} {w : World} {a : Option Addr} {cap : Nat} {l : List Lo} (h : OOw N w (.slice a l.length cap) l) (hM : w.heap.size ≤ M) : HAt M w a l := by
  rcases Nat.eq_zero_or_pos l.length with e | e
  · exact .inl (List.length_eq_zero_iff.1 e)
  · obtain ⟨g, rfl, -, hg⟩ := row_ptr h e
    refine .inr ⟨g, 0, rfl, by omega, fun i hi => ?_⟩
    have key : ∀ j, j < 10 → w.cell? ⟨g, 0 + i * 10 + j, none⟩ = some ((oat l i).cells.toList.getD j undef) := fun j hj => by
      rw [Nat.zero_add, (row_cell h (by omega)).1]
      have h1 := flat_get (fun x : Lo => x.cells.toList) (sz := 10) (fun _ => rfl) l i j hi hj
      rw [List.getD_eq_getElem?_getD, h1]
      have ho : oat l i = l[i] := by unfold oat; rw [List.getElem?_eq_getElem hi]; rfl
      rw [ho, ← List.getD_eq_getElem?_getD]
    exact ⟨key 0 (by omega), key 1 (by omega), key 2 (by omega), key 3 (by omega), key 4 (by omega), key 5 (by omega), key 6 (by omega), key 7 (by omega), key 8 (by omega), key 9 (by omega)⟩
theorem lo_one (x : Lo) : ∀ u ∈ x.cells.toList, u.oneCell' = true := by
  intro u hu
  simp only [Lo.cells, str, List.mem_cons, List.not_mem_nil, or_false] at hu
  rcases hu with rfl | rfl | rfl | rfl | rfl | rfl | rfl | rfl | rfl | rfl <;> rfl
theorem OOw.snoc {N : Nat} {w : World} {v : Value} {l : List Lo} {x : Lo} (h : w.ownsRow N 35 10 v (l.length + 1) ((l.flatMap fun x => x.cells.toList) ++ x.cells.toList)) : OOw N w v (l ++ [x]) := by
  unfold OOw
  rw [List.flatMap_append]
  simpa using h

theorem cells10 {w : World} {b : Nat} {t : TypeId} {v0 v1 v2 v3 v4 v5 v6 v7 v8 v9 : Value} (h : w.heap[b]? = some (.cells #[v0, v1, v2, v3, v4, v5, v6, v7, v8, v9] t (0, 0))) :
    (w.cell? ⟨b, 0, none⟩ = some v0 ∧ w.cell? ⟨b, 1, none⟩ = some v1 ∧ w.cell? ⟨b, 2, none⟩ = some v2 ∧ w.cell? ⟨b, 3, none⟩ = some v3 ∧ w.cell? ⟨b, 4, none⟩ = some v4 ∧ w.cell? ⟨b, 5, none⟩ = some v5 ∧ w.cell? ⟨b, 6, none⟩ = some v6 ∧ w.cell? ⟨b, 7, none⟩ = some v7 ∧ w.cell? ⟨b, 8, none⟩ = some v8 ∧ w.cell? ⟨b, 9, none⟩ = some v9) ∧ ∀ o, w.frozen? ⟨b, o, none⟩ = false := by
  refine ⟨⟨?_, ?_, ?_, ?_, ?_, ?_, ?_, ?_, ?_, ?_⟩, fun o => by simp [World.frozen?, h]⟩
  all_goals (simp only [World.cell?, h]; rfl)
theorem news10 {n : Nat} (w : World) (cs : Array Value) (hn : w.heap.size = n) (τ : TypeId) : ∀ j u, cs.toList[j]? = some u → (w.alloc (.cells cs τ)).cell? ((⟨n, 0, none⟩ : Addr).add j) = some u := by
  subst hn; exact news_at w cs τ
end Go.Proofs.Ytbcnpdpdflkanaa
