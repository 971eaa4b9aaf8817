/-
  slices.Delete of a log's last entries.
-/
import Derived.Test.YteekpfgjpdopmaaAp
namespace Go.Proofs.Yteekpfgjpdopmaa
open Go.RowKit
set_option linter.unusedVariables false

theorem heap_setCells (g : Nat) : ∀ (vs : List Value) (o : Nat) (w : World) (cur : Array Value) (t : TypeId) (z : Nat × Nat), w.heap[g]? = some (.cells cur t z) →
    ∃ cur', (w.setCells g o vs).heap[g]? = some (.cells cur' t z) ∧ cur'.size = cur.size ∧ ∀ j, j < o → cur'.toList[j]? = cur.toList[j]?
  | [], o, w, cur, t, z, h => ⟨cur, h, rfl, fun _ _ => rfl⟩
  | v :: r, o, w, cur, t, z, h => by
    obtain ⟨cur', h1, h2, h3⟩ := heap_setCells g r (o + 1) (w.setCell ⟨g, o, none⟩ v) (cur.setIfInBounds o v) t z (heap_set h o v)
    refine ⟨cur', h1, by simpa using h2, fun j hj => ?_⟩
    rw [h3 j (by omega), Array.toList_setIfInBounds, List.getElem?_set_ne (by omega)]
theorem out_setCells (g : Nat) : ∀ (vs : List Value) (o : Nat) (w : World), Out (fun i => i = g) w (w.setCells g o vs) ∧ (w.setCells g o vs).heap.size = w.heap.size
  | [], o, w => ⟨Out.refl _ _, rfl⟩
  | v :: r, o, w => by
    obtain ⟨h1, h2⟩ := out_setCells g r (o + 1) (w.setCell ⟨g, o, none⟩ v)
    exact ⟨(Out.set (X := fun i => i = g) rfl).trans h1 (fun i hi _ => hi), h2.trans (size_set _ _ _)⟩

theorem run_clear_ents (w : World) (ty : TypeId) (b o n c : Nat) (hn : 0 < n) (hc : ∀ j, j < n * 4 → (w.cell? ⟨b, o + j, none⟩).isSome = true) (hf : ∀ j, j < n * 4 → w.frozen? ⟨b, o + j, none⟩ = false) :
    ∃ zs, (Builtin.clear_ #[34] ty #[.slice (some ⟨b, o, none⟩) n c]).run Try.prog w = .ok (.tuple #[]) (w.setCells b o zs) := by
  obtain ⟨zs, hzs⟩ : ∃ zs, (Builtin.zeroCells (Value.agg #[.int .i64 0, .int .i64 0, .int .i64 0, .slice none 0 0]).cells n).toList = zs := ⟨_, rfl⟩
  have hlen : zs.length = n * 4 := by rw [← hzs]; simp [Builtin.zeroCells, Value.cells]; try omega
  have h1 : ∀ v ∈ zs, v.oneCell' = true := by
    intro v hv
    rw [← hzs] at hv
    simp [Builtin.zeroCells, Value.cells] at hv
    obtain ⟨a, ha, rfl⟩ := hv
    have : a % 4 = 0 ∨ a % 4 = 1 ∨ a % 4 = 2 ∨ a % 4 = 3 := by omega
    rcases this with e | e | e | e <;> simp [e, Value.oneCell']
  have hst := run_storeCells_cells (P := Try.prog) b o zs 0 w (by rw [hlen]; simpa using hc) (by rw [hlen]; simpa using hf) h1
  simp only [Nat.add_zero] at hst
  obtain ⟨m, rfl⟩ : ∃ m, n = m + 1 := ⟨n - 1, by omega⟩
  exact ⟨zs, by simp [Builtin.clear_, run_underlying Try.underlying34, hzs, hst]⟩

set_option maxRecDepth 100000 in
set_option maxHeartbeats 4000000 in
/-- slices.Delete, from a place to the end. -/
theorem delete_any (va : Option Addr) (cap k : Nat) (es : List Ent) (w : World) (h : EntsOw 0 w (.slice va es.length cap) es) (hk : k ≤ es.length) (hn : es.length ≤ 100000) :
    Calls Try.prog 84 #[.slice va es.length cap, .int .i64 (k : Int), .int .i64 (es.length : Int)] w fun e w' => e = .returned (.slice va k cap) ∧ EntsOw 0 w' (.slice va k cap) (es.take k) ∧ Out (fun i => (Value.slice va es.length cap).ownBlock = some i) w w' ∧ w'.heap.size = w.heap.size := by
  have hshape := h.shape
  obtain ⟨_, _, heq, hlc, hcm⟩ := hshape
  cases heq
  unfold maxLen at hcm
  have htl : (es.take k).length = k := by simp; omega
  by_cases hkn : k = es.length
  · subst hkn
    have HE : Hid (EntsOw 0 w (.slice va es.length cap) (es.take es.length)) := by show EntsOw _ _ _ _; rw [List.take_length]; exact h
    clear h htl
    generalize es.length = n at *
    cases va with
    | none =>
      go_enter Try.func84, Try.ntmps84
      go_wp2
      all_goals (go_ret; exact ⟨rfl, HE.out, Out.refl _ _, rfl⟩)
    | some a =>
      go_enter Try.func84, Try.ntmps84
      go_wp2
      all_goals (go_ret; exact ⟨rfl, HE.out, Out.refl _ _, rfl⟩)
  · have hlt : k < es.length := by omega
    rcases h.row.2 with ⟨hv, hz⟩ | ⟨g, cap', cur, hv, -, hgb, hc1, hc2, hc3, hc4⟩
    · omega
    · simp only [Value.slice.injEq, true_and] at hv
      obtain ⟨rfl, rfl⟩ := hv
      have hcl0 : ∀ ty, ∃ zs, (Builtin.clear_ #[34] ty #[.slice (some ⟨g, k * 4, none⟩) (es.length - k) (cap - k)]).run Try.prog w.drew = .ok (.tuple #[]) (w.drew.setCells g (k * 4) zs) := fun ty => by
        refine run_clear_ents w.drew ty g (k * 4) (es.length - k) (cap - k) (by omega) (fun j hj => ?_) (fun j hj => ?_)
        · show (w.cell? _).isSome = true
          simp only [World.cell?, hgb]
          rw [Array.getElem?_eq_getElem (by omega)]
          rfl
        · show w.frozen? _ = false
          simp [World.frozen?, hgb]
      have HF : Hid (∀ zs, EntsOw 0 (w.drew.setCells g (k * 4) zs) (.slice (some ⟨g, 0, none⟩) k cap) (es.take k) ∧ Out (fun i => (Value.slice (some ⟨g, 0, none⟩) es.length cap).ownBlock = some i) w (w.drew.setCells g (k * 4) zs) ∧ (w.drew.setCells g (k * 4) zs).heap.size = w.heap.size) := fun zs => by
        obtain ⟨cur', q1, q2, q3⟩ := heap_setCells g zs (k * 4) w.drew cur 40 (0, 0) hgb
        obtain ⟨o1, o2⟩ := out_setCells g zs (k * 4) w.drew
        have o3 : Out (fun i => i = g) w (w.drew.setCells g (k * 4) zs) := ⟨o1.os, o1.tape, o1.output, o1.size, o1.block⟩
        refine ⟨⟨⟨entCells_length _, .inr ⟨g, cap, cur', by rw [htl], Nat.zero_le _, q1, by omega, hc2, by omega, ?_⟩⟩, fun e he => ?_⟩, o3.mono (fun i hi => by simp [Value.ownBlock, hi]), o2⟩
        · rw [htl, entCells_take, ← hc4, List.take_take, Nat.min_eq_left (by omega)]
          apply List.ext_getElem?
          intro j
          rw [List.getElem?_take, List.getElem?_take]
          by_cases hj : j < k * 4
          · rw [if_pos hj, if_pos hj, q3 j hj]
          · rw [if_neg hj, if_neg hj]
        · have he' := List.mem_of_mem_take he
          exact (h.dat e he').out o3 (by rintro i hi rfl; exact (h.dat e he').not_at hgb (by decide) hi)
      obtain ⟨i0, hi, hz0, hz1, hz2⟩ := infoParts
      obtain ⟨A, hA⟩ : ∃ A : Addr, (if cap = es.length then some (⟨g, 0, none⟩ : Addr) else some ⟨g, es.length * 4, none⟩) = some A := by
        by_cases h : cap = es.length
        · exact ⟨_, if_pos h⟩
        · exact ⟨_, if_neg h⟩
      have hkc : k ≤ cap := by omega
      have hkc' : k < cap := by omega
      have hkc'' : ¬ cap = k := by omega
      have hne : ((k : Int) == (es.length : Int)) = false := by simp; omega
      obtain ⟨zs, hcl⟩ := hcl0 0
      have hclT : ∀ ty, (Builtin.clear_ #[34] ty #[.slice (some ⟨g, k * 4, none⟩) (es.length - k) (cap - k)]).run Try.prog w.drew = .ok (.tuple #[]) (w.drew.setCells g (k * 4) zs) := fun ty => by rw [← hcl]; rfl
      have HFz : Hid (_ ∧ _ ∧ _) := HF.out zs
      have hsz : w.drew.setCells g (k * 4) [] = w.drew := rfl
      clear h hc3 hc4 hgb hcl0 hcl HF htl hkn
      generalize w.drew.setCells g (k * 4) zs = W9 at *
      generalize es.length = n at *
      go_enter Try.func84, Try.ntmps84
      go_wp2_with fail
      go_region_law (refine step_append_room rfl (.tmp 22) (.tmp 25) 34 rfl 40 i0 4 Try.underlying34 hi hz1 g 0 k cap (by simp [Act.eval, Act.put]) A 0 (cap - n) [] (by simp [Act.eval, Act.put]; try exact hA) (by simp) (by simp) (by simp) (by omega) (by simp) ?_; rw [Nat.zero_add, hsz])
      go_wp2
      go_ret
      exact ⟨rfl, HFz.out⟩
end Go.Proofs.Yteekpfgjpdopmaa
