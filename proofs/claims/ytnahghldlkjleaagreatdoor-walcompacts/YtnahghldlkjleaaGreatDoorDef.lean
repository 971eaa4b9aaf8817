/-
  Delete of the first entries.
-/
import Derived.Test.YtnahghldlkjleaaGreatDoorWA
namespace Go.Proofs.YtnahghldlkjleaaGreatDoor
open Go.RowKit
set_option linter.unusedVariables false

theorem heap_setCells' (g : Nat) : ∀ (vs : List Value) (o : Nat) (w : World) (cur : Array Value) (t : TypeId) (z : Nat × Nat), w.heap[g]? = some (.cells cur t z) → o + vs.length ≤ cur.size →
    ∃ cur', (w.setCells g o vs).heap[g]? = some (.cells cur' t z) ∧ cur'.size = cur.size ∧ (∀ j, j < o → cur'.toList[j]? = cur.toList[j]?) ∧ ∀ j, j < vs.length → cur'.toList[o + j]? = vs[j]?
  | [], o, w, cur, t, z, h, _ => ⟨cur, h, rfl, fun _ _ => rfl, fun j hj => by simp at hj⟩
  | v :: r, o, w, cur, t, z, h, hl => by
    obtain ⟨cur', h1, h2, h3, h4⟩ := heap_setCells' g r (o + 1) (w.setCell ⟨g, o, none⟩ v) (cur.setIfInBounds o v) t z (heap_set h o v) (by simp at hl ⊢; omega)
    refine ⟨cur', h1, by simpa using h2, fun j hj => ?_, fun j hj => ?_⟩
    · rw [h3 j (by omega)]
      simp only [Array.toList_setIfInBounds]
      rw [List.getElem?_set_ne (by omega)]
    · cases j with
      | zero =>
        rw [Nat.add_zero, h3 o (by omega)]
        simp only [Array.toList_setIfInBounds]
        rw [List.getElem?_set_self (by simp at hl; simp; omega)]
        rfl
      | succ j =>
        have := h4 j (by simpa using hj)
        rw [show o + (j + 1) = o + 1 + j by omega, this]
        rfl
theorem entCells_drop (a : List Ent) : ∀ n, entCells (a.drop n) = (entCells a).drop (n * 4) := by
  induction a with
  | nil => intro n; simp [entCells]
  | cons e r ih =>
    intro n
    cases n with
    | zero => simp
    | succ n =>
      have e1 : (n + 1) * 4 = n * 4 + 1 + 1 + 1 + 1 := by omega
      rw [e1]
      simp [entCells, ih n]

set_option maxRecDepth 100000 in
set_option maxHeartbeats 2000000 in
theorem delete_front (va : Option Addr) (cap k : Nat) (es : List Ent) (w : World) (h : EntsOw 0 w (.slice va es.length cap) es) (hk0 : 0 < k) (hk : k ≤ es.length) (hn : es.length ≤ 1000000000) :
    Calls Tryz.prog 141 #[.slice va es.length cap, .int .i64 0, .int .i64 (k : Int)] w fun e w' => e = .returned (.slice va (es.length - k) cap) ∧ EntsOw 0 w' (.slice va (es.length - k) cap) (es.drop k) ∧ Out (fun i => (Value.slice va es.length cap).ownBlock = some i) w w' ∧ w'.heap.size = w.heap.size := by
  obtain ⟨_, _, heq, hlc, hcm⟩ := h.shape
  cases heq
  unfold maxLen at hcm
  rcases h.row.2 with ⟨hv, hz⟩ | ⟨g, cap', cur, hv, -, hgb, hc1, hc2, hc3, hc4⟩
  · omega
  simp only [Value.slice.injEq, true_and] at hv
  obtain ⟨rfl, rfl⟩ := hv
  obtain ⟨m, hm⟩ : ∃ m, es.length - k = m := ⟨_, rfl⟩
  have hdl : (es.drop k).length = m := by simp; omega
  obtain ⟨news, hnews⟩ : ∃ news, entCells (es.drop k) = news := ⟨_, rfl⟩
  have hnl : news.length = m * 4 := by rw [← hnews, entCells_length, hdl]
  have hcs : es.length * 4 ≤ cur.size := by
    have := congrArg List.length hc4
    rw [entCells_length, List.length_take, Array.length_toList] at this
    omega
  obtain ⟨W1, hW1⟩ : ∃ W1, w.drew.setCells g 0 news = W1 := ⟨_, rfl⟩
  obtain ⟨cur1, r1, r2, -, r4⟩ := heap_setCells' g news 0 w.drew cur 88 (0, 0) hgb (by omega)
  rw [hW1] at r1
  obtain ⟨o1, o2⟩ := out_setCells g news 0 w.drew
  rw [hW1] at o1 o2
  have hcl0 : ∀ ty, ∃ zs, (Builtin.clear_ #[37] ty #[.slice (some ⟨g, m * 4, none⟩) (es.length - m) (cap - m)]).run Tryz.prog W1 = .ok (.tuple #[]) (W1.setCells g (m * 4) zs) := fun ty => by
    refine run_clear_ents W1 ty g (m * 4) (es.length - m) (cap - m) (by omega) (fun j hj => ?_) (fun j hj => ?_)
    · simp only [World.cell?, r1]
      show (cur1[m * 4 + j]?).isSome = true
      rw [Array.getElem?_eq_getElem (by omega)]
      rfl
    · simp [World.frozen?, r1]
  obtain ⟨zs, hcl⟩ := hcl0 0
  have hclT : ∀ ty, (Builtin.clear_ #[37] ty #[.slice (some ⟨g, m * 4, none⟩) (es.length - m) (cap - m)]).run Tryz.prog W1 = .ok (.tuple #[]) (W1.setCells g (m * 4) zs) := fun ty => by rw [← hcl]; rfl
  have HFz : Hid (EntsOw 0 (W1.setCells g (m * 4) zs) (.slice (some ⟨g, 0, none⟩) m cap) (es.drop k) ∧ Out (fun i => (Value.slice (some ⟨g, 0, none⟩) es.length cap).ownBlock = some i) w (W1.setCells g (m * 4) zs) ∧ (W1.setCells g (m * 4) zs).heap.size = w.heap.size) := by
    obtain ⟨cur', q1, q2, q3⟩ := heap_setCells g zs (m * 4) W1 cur1 88 (0, 0) r1
    obtain ⟨p1, p2⟩ := out_setCells g zs (m * 4) W1
    have o3 : Out (fun i => i = g) w (W1.setCells g (m * 4) zs) := ((⟨o1.os, o1.tape, o1.output, o1.size, o1.block⟩ : Out (fun i => i = g) w W1)).trans p1 (fun i hi _ => hi)
    refine ⟨⟨⟨entCells_length _, .inr ⟨g, cap, cur', by rw [hdl], Nat.zero_le _, q1, by omega, hc2, by omega, ?_⟩⟩, fun e he => ?_⟩, o3.mono (fun i hi => by simp [Value.ownBlock, hi]), by rw [p2]; exact o2⟩
    · rw [hdl, hnews]
      apply List.ext_getElem?
      intro j
      rw [List.getElem?_take]
      by_cases hj : j < m * 4
      · rw [if_pos hj, q3 j hj, ← r4 j (by omega), Nat.zero_add]
      · rw [if_neg hj, List.getElem?_eq_none (by omega)]
    · have he' := List.mem_of_mem_drop he
      exact (h.dat e he').out o3 (by rintro i hi rfl; exact (h.dat e he').not_at hgb (by decide) hi)
  obtain ⟨i0, hi, hz0, hz1, hz2⟩ := infoParts
  obtain ⟨A, hA⟩ : ∃ A : Addr, (if cap = k then some (⟨g, 0, none⟩ : Addr) else some ⟨g, k * 4, none⟩) = some A := by
    by_cases h : cap = k
    · exact ⟨_, if_pos h⟩
    · exact ⟨_, if_neg h⟩
  have hone : ∀ u ∈ news, u.oneCell' = true := by rw [← hnews]; exact entCells_one _
  have hsrc : ∀ j u, news[j]? = some u → w.drew.cell? (A.add j) = some u := fun j u hj => by
    have hj2 := (List.getElem?_eq_some_iff.1 hj).1
    have hne : ¬ cap = k := by omega
    rw [if_neg hne] at hA
    cases hA
    rw [Addr.add_lit]
    show w.cell? _ = _
    simp only [World.cell?, hgb]
    have e1 : (cur.toList.take (es.length * 4))[k * 4 + j]? = some u := by
      rw [hc4, ← hj, ← hnews, entCells_drop, List.getElem?_drop]
    rw [List.getElem?_take, if_pos (by omega)] at e1
    simpa using e1
  have hspare : ∀ j, j < news.length → (w.drew.cell? ⟨g, 0 + 0 * 4 + j, none⟩).isSome = true ∧ w.drew.frozen? ⟨g, 0 + 0 * 4 + j, none⟩ = false := fun j hj => by
    refine ⟨?_, ?_⟩
    · show (w.cell? _).isSome = true
      simp only [World.cell?, hgb]
      show (cur[0 + 0 * 4 + j]?).isSome = true
      rw [Array.getElem?_eq_getElem (by omega)]
      rfl
    · show w.frozen? _ = false
      simp [World.frozen?, hgb]
  have hmc : ¬ cap = m := by omega
  have hmc' : m ≤ cap := by omega
  have hne : ((0 : Int) == (k : Int)) = false := by simp; omega
  have hkc : k ≤ cap := by omega
  have hmn : m ≤ es.length := by omega
  have hnm : es.length - k = m := hm
  clear h hc3 hc4 hgb hcl0 hcl o1 o2 r1 r2 r4 hnews hcs hdl
  generalize W1.setCells g (m * 4) zs = W9 at *
  generalize es.length = n at *
  go_enter Tryz.func141, Tryz.ntmps141
  go_wp2_with fail
  go_region_law (refine step_append_room rfl (.tmp 22) (.tmp 25) 37 rfl 88 i0 4 Tryz.underlying37 hi hz1 g 0 0 cap (by simp [Act.eval, Act.put]) A m (cap - k) news (by simp [Act.eval, Act.put]; try exact hA) hnl hsrc hone (by omega) hspare ?_; rw [Nat.zero_add, Nat.zero_mul, Nat.zero_add, hW1])
  go_wp2
  go_ret
  rw [hnm]
  exact ⟨by simp, HFz.out⟩
end Go.Proofs.YtnahghldlkjleaaGreatDoor
