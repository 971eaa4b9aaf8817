/-
  A return behind several ranges over functions: each has left a mark; the result lies in a cell.
-/
import Derived.Test.YthaoobfldponpaaRange
namespace Go.Proofs.Ythaoobfldponpaa
open Go.RowKit Go.Shelf

/-- The marks of ranges that have ended. -/
def Marks (N : Nat) (w : World) (ds : List Deferred) : Prop :=
  ∃ Ds : List Nat, ds = Ds.map (fun D => { target := .collected D, args := #[] }) ∧ Ds.Nodup ∧ ∀ D ∈ Ds, N ≤ D ∧ w.heap[D]? = some (.deferred (some []))

theorem Marks.nil (N : Nat) (w : World) : Marks N w [] := ⟨[], rfl, List.nodup_nil, fun _ h => by cases h⟩

theorem Marks.keep {N : Nat} {w w' : World} {ds : List Deferred} (h : Marks N w ds) (hk : ∀ D : Nat, N ≤ D → w.heap[D]? = some (Obj.deferred (some [])) → w'.heap[D]? = some (Obj.deferred (some []))) : Marks N w' ds := by
  obtain ⟨Ds, h1, h2, h3⟩ := h
  exact ⟨Ds, h1, h2, fun D hD => ⟨(h3 D hD).1, hk D (h3 D hD).1 (h3 D hD).2⟩⟩

/-- A mark more, of a block that was made since. -/
theorem Marks.cons {N : Nat} {w w' : World} {ds : List Deferred} (h : Marks N w ds) (hk : ∀ D : Nat, N ≤ D → w.heap[D]? = some (Obj.deferred (some [])) → w'.heap[D]? = some (Obj.deferred (some []))) (D : Nat) (hN : N ≤ D) (hD : w.heap.size ≤ D) (hd : w'.heap[D]? = some (.deferred (some []))) :
    Marks N w' ({ target := .collected D, args := #[] } :: ds) := by
  obtain ⟨Ds, rfl, h2, h3⟩ := h
  refine ⟨D :: Ds, rfl, List.nodup_cons.2 ⟨fun hm => ?_, h2⟩, fun E hE => ?_⟩
  · have := (Array.getElem?_eq_some_iff.1 (h3 D hm).2).1
    omega
  · rcases List.mem_cons.1 hE with rfl | hE
    · exact ⟨hN, hd⟩
    · exact ⟨(h3 E hE).1, hk E (h3 E hE).1 (h3 E hE).2⟩

theorem results_cell {fn : Func} {t : Tmp} (h : fn.results = #[.cell t 4]) (tmps : Array Value) (w : World) (B : Nat) (v : Bool) (ht : tmps.getD t undef = .pointer (some ⟨B, 0, none⟩)) (hb : Boxed w B 4 (.bool v)) :
    (results fn tmps).run Try.prog w = .ok (.bool v) w := by
  have hc := hb.cell
  have ht' : tmps[t]?.getD undef = .pointer (some ⟨B, 0, none⟩) := by rw [← Array.getD_eq_getD_getElem?]; exact ht
  simp [results, h, ht', asAddr, loadVar, hc, go_sem]

theorem leave_marks {fn : Func} {tmps : Array Value} {R : Ending → World → Prop} {n : Nat} (N : Nat) : ∀ (Ds : List Nat) (w : World), Ds.Nodup → (∀ D ∈ Ds, N ≤ D ∧ w.heap[D]? = some (.deferred (some []))) →
    (∀ w', Below N w w' → (∀ (k : Nat) (o : Obj), w.heap[k]? = some o → o.isCells = true → w'.heap[k]? = some o) → ∃ v, (results fn tmps).run Try.prog w' = .ok v w' ∧ R (.returned v) w') → N ≤ w.heap.size →
    LeavesInM Fence.wide n Try.prog fn tmps R (Ds.map (fun D => { target := .collected D, args := #[] })) .returning w := by
  intro Ds
  induction Ds with
  | nil => intro w _ _ hR hN; exact hR w (Below.refl _ _) (fun _ _ h _ => h)
  | cons D Ds ih =>
    intro w hnd hm hR hN
    obtain ⟨hD, hd⟩ := hm D (by simp)
    have hlt := (Array.getElem?_eq_some_iff.1 hd).1
    refine ⟨by simp, .inl ⟨D, _, rfl, run_takeDeferred hd, ?_⟩⟩
    have hB : Below N w (w.putObj D (.deferred none)) := (Below.refl N w).grown (grownBy_putObj' w D _) hN (fun k e => by cases e; exact hD)
    refine ih _ (List.nodup_cons.1 hnd).2 (fun E hE => ?_) (fun w' hB' hc' => hR w' (hB.trans hB') (fun k o hk ho => hc' k o ?_ ho)) (Nat.le_trans hN hB.size)
    · obtain ⟨e1, e2⟩ := hm E (by simp [hE])
      refine ⟨e1, (World.putObj_heap_other (fun e => ?_)).trans e2⟩
      subst e
      exact (List.nodup_cons.1 hnd).1 hE
    · refine (World.putObj_heap_other (fun e => ?_)).trans hk
      subst e
      rw [hd] at hk; cases hk; cases ho
end Go.Proofs.Ythaoobfldponpaa
