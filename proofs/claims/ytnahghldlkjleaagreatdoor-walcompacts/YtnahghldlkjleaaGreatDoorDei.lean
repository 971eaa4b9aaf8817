/-
  Delete of the first integers.
-/
import Derived.Test.YtnahghldlkjleaaGreatDoorDef
namespace Go.Proofs.YtnahghldlkjleaaGreatDoor
open Go.RowKit
set_option linter.unusedVariables false

theorem run_clear_ints (w : World) (ty : TypeId) (b o n c : Nat) (hn : 0 < n) (hc : ∀ j, j < n → (w.cell? ⟨b, o + j, none⟩).isSome = true) (hf : ∀ j, j < n → w.frozen? ⟨b, o + j, none⟩ = false) :
    ∃ zs, (Builtin.clear_ #[81] ty #[.slice (some ⟨b, o, none⟩) n c]).run Tryz.prog w = .ok (.tuple #[]) (w.setCells b o zs) := by
  obtain ⟨zs, hzs⟩ : ∃ zs, (Builtin.zeroCells (Value.int .i64 0).cells n).toList = zs := ⟨_, rfl⟩
  have hlen : zs.length = n := by rw [← hzs]; simp [Builtin.zeroCells, Value.cells]
  have h1 : ∀ v ∈ zs, v.oneCell' = true := by
    intro v hv
    rw [← hzs] at hv
    simp [Builtin.zeroCells, Value.cells] at hv
    obtain ⟨a, ha, rfl⟩ := hv
    rw [Nat.mod_one]
    rfl
  have hst := run_storeCells_cells (P := Tryz.prog) b o zs 0 w (by rw [hlen]; simpa using hc) (by rw [hlen]; simpa using hf) h1
  simp only [Nat.add_zero] at hst
  obtain ⟨m, rfl⟩ : ∃ m, n = m + 1 := ⟨n - 1, by omega⟩
  exact ⟨zs, by simp [Builtin.clear_, run_underlying Tryz.underlying81, hzs, hst]⟩
def icells (l : List Nat) : List Value := l.map fun (n : Nat) => Value.int .i64 (n : Int)
theorem icells_flat (l : List Nat) : l.flatMap RI.enc = icells l := by
  induction l with
  | nil => rfl
  | cons x q ih => rw [List.flatMap_cons, ih]; rfl

set_option maxRecDepth 100000 in
set_option maxHeartbeats 2000000 in
theorem deleteI_front (va : Option Addr) (cap k : Nat) (es : List Nat) (w : World) (h : Ro RI 0 w (.slice va es.length cap) es) (hk0 : 0 < k) (hk : k ≤ es.length) (hn : es.length ≤ 1000000000) :
    Calls Tryz.prog 142 #[.slice va es.length cap, .int .i64 0, .int .i64 (k : Int)] w fun e w' => e = .returned (.slice va (es.length - k) cap) ∧ Ro RI 0 w' (.slice va (es.length - k) cap) (es.drop k) ∧ Out (fun i => (Value.slice va es.length cap).ownBlock = some i) w w' ∧ w'.heap.size = w.heap.size := by
  obtain ⟨_, _, heq, hlc, hcm⟩ := h.shape
  cases heq
  unfold maxLen at hcm
  rcases h.2 with ⟨hv, hz⟩ | ⟨g, cap', cur, hv, -, hgb, hc1, hc2, hc3, hc4⟩
  · omega
  simp only [Value.slice.injEq, true_and] at hv
  obtain ⟨rfl, rfl⟩ := hv
  rw [icells_flat] at hc4
  have hc3' : es.length ≤ cur.size := by
    rw [hc3]
    show es.length ≤ cap * 1
    omega
  have hc4' : cur.toList.take es.length = icells es := by
    rw [← hc4]
    congr 1
    exact (Nat.mul_one _).symm
  obtain ⟨m, hm⟩ : ∃ m, es.length - k = m := ⟨_, rfl⟩
  have hdl : (es.drop k).length = m := by simp; omega
  obtain ⟨news, hnews⟩ : ∃ news, icells (es.drop k) = news := ⟨_, rfl⟩
  have hnl : news.length = m := by rw [← hnews]; simp [icells]; omega
  obtain ⟨W1, hW1⟩ : ∃ W1, w.drew.setCells g 0 news = W1 := ⟨_, rfl⟩
  obtain ⟨cur1, r1, r2, -, r4⟩ := heap_setCells' g news 0 w.drew cur 3 (0, 0) hgb (by omega)
  rw [hW1] at r1
  obtain ⟨o1, o2⟩ := out_setCells g news 0 w.drew
  rw [hW1] at o1 o2
  have hcl0 : ∀ ty, ∃ zs, (Builtin.clear_ #[81] ty #[.slice (some ⟨g, m, none⟩) (es.length - m) (cap - m)]).run Tryz.prog W1 = .ok (.tuple #[]) (W1.setCells g m zs) := fun ty => by
    refine run_clear_ints W1 ty g m (es.length - m) (cap - m) (by omega) (fun j hj => ?_) (fun j hj => ?_)
    · simp only [World.cell?, r1]
      show (cur1[m + j]?).isSome = true
      rw [Array.getElem?_eq_getElem (by omega)]
      rfl
    · simp [World.frozen?, r1]
  obtain ⟨zs, hcl⟩ := hcl0 0
  have hclT : ∀ ty, (Builtin.clear_ #[81] ty #[.slice (some ⟨g, m, none⟩) (es.length - m) (cap - m)]).run Tryz.prog W1 = .ok (.tuple #[]) (W1.setCells g m zs) := fun ty => by rw [← hcl]; rfl
  have HFz : Hid (Ro RI 0 (W1.setCells g m zs) (.slice (some ⟨g, 0, none⟩) m cap) (es.drop k) ∧ Out (fun i => (Value.slice (some ⟨g, 0, none⟩) es.length cap).ownBlock = some i) w (W1.setCells g m zs) ∧ (W1.setCells g m zs).heap.size = w.heap.size) := by
    obtain ⟨cur', q1, q2, q3⟩ := heap_setCells g zs m W1 cur1 3 (0, 0) r1
    obtain ⟨p1, p2⟩ := out_setCells g zs m W1
    have o3 : Out (fun i => i = g) w (W1.setCells g m zs) := ((⟨o1.os, o1.tape, o1.output, o1.size, o1.block⟩ : Out (fun i => i = g) w W1)).trans p1 (fun i hi _ => hi)
    refine ⟨⟨flat_len RI _, .inr ⟨g, cap, cur', by rw [hdl], Nat.zero_le _, q1, by omega, hc2, ?_, ?_⟩⟩, o3.mono (fun i hi => by simp [Value.ownBlock, hi]), by rw [p2]; exact o2⟩
    · rw [q2, r2]; exact hc3
    · rw [hdl, icells_flat, hnews, show m * RI.k = m from Nat.mul_one _]
      apply List.ext_getElem?
      intro j
      rw [List.getElem?_take]
      by_cases hj : j < m
      · rw [if_pos hj, q3 j hj, ← r4 j (by omega), Nat.zero_add]
      · rw [if_neg hj, List.getElem?_eq_none (by omega)]
  obtain ⟨i0, hi, hz0, hz1, hz2⟩ := info_parts RI.info
  obtain ⟨A, hA⟩ : ∃ A : Addr, (if cap = k then some (⟨g, 0, none⟩ : Addr) else some ⟨g, k, none⟩) = some A := by
    by_cases h : cap = k
    · exact ⟨_, if_pos h⟩
    · exact ⟨_, if_neg h⟩
  have hone : ∀ u ∈ news, u.oneCell' = true := by
    rw [← hnews]
    intro u hu
    obtain ⟨x, -, rfl⟩ := List.mem_map.1 hu
    rfl
  have hsrc : ∀ j u, news[j]? = some u → w.drew.cell? (A.add j) = some u := fun j u hj => by
    have hj2 := (List.getElem?_eq_some_iff.1 hj).1
    have hne : ¬ cap = k := by omega
    rw [if_neg hne] at hA
    cases hA
    rw [Addr.add_lit]
    show w.cell? _ = _
    simp only [World.cell?, hgb]
    have e1 : (cur.toList.take es.length)[k + j]? = some u := by
      rw [hc4', ← hj, ← hnews]
      simp [icells]
    rw [List.getElem?_take, if_pos (by omega)] at e1
    simpa using e1
  have hspare : ∀ j, j < news.length → (w.drew.cell? ⟨g, 0 + 0 * 1 + j, none⟩).isSome = true ∧ w.drew.frozen? ⟨g, 0 + 0 * 1 + j, none⟩ = false := fun j hj => by
    refine ⟨?_, ?_⟩
    · show (w.cell? _).isSome = true
      simp only [World.cell?, hgb]
      show (cur[0 + 0 * 1 + j]?).isSome = true
      rw [Array.getElem?_eq_getElem (by omega)]
      rfl
    · show w.frozen? _ = false
      simp [World.frozen?, hgb]
  have hmc : ¬ cap = m := by omega
  have hmc' : m ≤ cap := by omega
  have hne : ((0 : Int) == (k : Int)) = false := by simp; omega
  have hkc : k ≤ cap := by omega
  have hmn : m ≤ es.length := by omega
  have hnm : es.length - k = m := hm
  have hnl1 : news.length = m * 1 := by omega
  clear h hc3 hc4 hgb hcl0 hcl o1 o2 r1 r2 r4 hnews hdl hc3' hc4'
  generalize W1.setCells g m zs = W9 at *
  generalize es.length = n at *
  go_enter Tryz.func142, Tryz.ntmps142
  go_wp2_with fail
  go_region_law (refine step_append_room rfl (.tmp 22) (.tmp 25) 81 rfl 3 i0 1 Tryz.underlying81 hi hz1 g 0 0 cap (by simp [Act.eval, Act.put]) A m (cap - k) news (by simp [Act.eval, Act.put]; try exact hA) hnl1 hsrc hone (by omega) hspare ?_; rw [Nat.zero_add, Nat.zero_mul, Nat.zero_add, hW1])
  go_wp2
  go_ret
  rw [hnm]
  exact ⟨by simp, HFz.out⟩
end Go.Proofs.YtnahghldlkjleaaGreatDoor
