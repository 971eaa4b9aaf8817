/-
  Cells laid over others; slices.Delete of one mail.
-/
import Derived.Test.YtefbfjlmhfmiiaaAe
namespace Go.Proofs.Ytefbfjlmhfmiiaa
open Go.RowKit
set_option linter.unusedVariables false

theorem heap_setCells (g : Nat) : ∀ (vs : List Value) (o : Nat) (w : World) (cur : Array Value) (t : TypeId) (z : Nat × Nat), w.heap[g]? = some (.cells cur t z) →
    ∃ cur', (w.setCells g o vs).heap[g]? = some (.cells cur' t z) ∧ cur'.size = cur.size ∧ ∀ j, cur'.toList[j]? = if o ≤ j ∧ j < o + vs.length ∧ j < cur.size then vs[j - o]? else cur.toList[j]?
  | [], o, w, cur, t, z, h => ⟨cur, h, rfl, fun j => by rw [if_neg (by simp; omega)]⟩
  | v :: r, o, w, cur, t, z, h => by
    obtain ⟨cur', h1, h2, h3⟩ := heap_setCells g r (o + 1) (w.setCell ⟨g, o, none⟩ v) (cur.setIfInBounds o v) t z (heap_set h o v)
    refine ⟨cur', h1, by simpa using h2, fun j => ?_⟩
    rw [h3 j, Array.size_setIfInBounds, Array.toList_setIfInBounds]
    simp only [List.length_cons]
    by_cases hj : j = o
    · subst hj
      rw [if_neg (by omega)]
      by_cases hc : j < cur.size
      · rw [if_pos (by omega)]
        simp [hc]
      · rw [if_neg (by omega)]
        rw [List.getElem?_eq_none (by simp; omega), List.getElem?_eq_none (by simp; omega)]
    · rw [List.getElem?_set_ne (by omega)]
      by_cases hc : o ≤ j ∧ j < o + (r.length + 1) ∧ j < cur.size
      · rw [if_pos (by omega), if_pos hc]
        have : j - o = (j - (o + 1)) + 1 := by omega
        rw [this, List.getElem?_cons_succ]
      · rw [if_neg (by omega), if_neg hc]
theorem out_setCells (g : Nat) : ∀ (vs : List Value) (o : Nat) (w : World), Out (fun i => i = g) w (w.setCells g o vs) ∧ (w.setCells g o vs).heap.size = w.heap.size
  | [], o, w => ⟨Out.refl _ _, rfl⟩
  | v :: r, o, w => by
    obtain ⟨h1, h2⟩ := out_setCells g r (o + 1) (w.setCell ⟨g, o, none⟩ v)
    exact ⟨(Out.set (X := fun i => i = g) rfl).trans h1 (fun i hi _ => hi), h2.trans (size_set _ _ _)⟩

theorem drew_setCells (g : Nat) : ∀ (vs : List Value) (o : Nat) (w : World), (w.setCells g o vs).drew = w.drew.setCells g o vs
  | [], _, _ => rfl
  | v :: r, o, w => by rw [World.setCells, World.setCells, drew_setCells g r]; rfl

/-- A row, by its cells. -/
theorem MlsOw.of {τ : TypeId} {w : World} {g cap : Nat} {cur : Array Value} {fs : List Ml} (hb : w.heap[g]? = some (.cells cur τ (0, 0))) (hc : cur.size = cap * 5) (hm : cap ≤ maxLen) (hl : fs.length ≤ cap) (hcells : ∀ j, j < fs.length * 5 → cur.toList[j]? = (mlCells fs)[j]?) (hd : ∀ e ∈ fs, Ow 0 w e.x e.d) : MlsOw τ 0 w (.slice (some ⟨g, 0, none⟩) fs.length cap) fs := by
  refine ⟨⟨mlCells_length fs, .inr ⟨g, cap, cur, rfl, Nat.zero_le _, hb, hl, hm, hc, ?_⟩⟩, hd⟩
  apply List.ext_getElem?
  intro j
  rw [List.getElem?_take]
  by_cases hj : j < fs.length * 5
  · rw [if_pos hj, hcells j hj]
  · rw [if_neg hj, List.getElem?_eq_none (by rw [mlCells_length]; omega)]
theorem MlsOw.open {τ : TypeId} {N : Nat} {w : World} {va : Option Addr} {cap : Nat} {es : List Ml} (h : MlsOw τ N w (.slice va es.length cap) es) (hp : 0 < es.length) : ∃ g cur, va = some ⟨g, 0, none⟩ ∧ w.heap[g]? = some (.cells cur τ (0, 0)) ∧ cur.size = cap * 5 ∧ es.length ≤ cap ∧ cap ≤ maxLen ∧ ∀ j, j < es.length * 5 → cur.toList[j]? = (mlCells es)[j]? := by
  rcases h.row.2 with ⟨hv, hz⟩ | ⟨g, cap', cur, hv, -, hgb, hc1, hc2, hc3, hc4⟩
  · omega
  · simp only [Value.slice.injEq, true_and] at hv
    obtain ⟨rfl, rfl⟩ := hv
    refine ⟨g, cur, rfl, hgb, hc3, hc1, hc2, fun j hj => ?_⟩
    rw [← hc4, List.getElem?_take, if_pos hj]

theorem run_clear_mls {σ τ : TypeId} (hT : TyM σ τ) (w : World) (ty : TypeId) (b o n c : Nat) (hn : 0 < n) (hc : ∀ j, j < n * 5 → (w.cell? ⟨b, o + j, none⟩).isSome = true) (hf : ∀ j, j < n * 5 → w.frozen? ⟨b, o + j, none⟩ = false) :
    ∃ zs, zs.length = n * 5 ∧ (Builtin.clear_ #[σ] ty #[.slice (some ⟨b, o, none⟩) n c]).run Try.prog w = .ok (.tuple #[]) (w.setCells b o zs) := by
  obtain ⟨i0, hi, hz0, hz1, hz2⟩ := info_parts hT.inf
  obtain ⟨zs, hzs⟩ : ∃ zs, (Builtin.zeroCells (Value.agg #[.int .i64 0, .int .i64 0, .int .i64 0, .slice none 0 0, .bool false]).cells n).toList = zs := ⟨_, rfl⟩
  have hlen : zs.length = n * 5 := by rw [← hzs]; simp [Builtin.zeroCells, Value.cells]
  have h1 : ∀ v ∈ zs, v.oneCell' = true := by
    intro v hv
    rw [← hzs] at hv
    simp [Builtin.zeroCells, Value.cells] at hv
    obtain ⟨a, ha, rfl⟩ := hv
    have : a % 5 = 0 ∨ a % 5 = 1 ∨ a % 5 = 2 ∨ a % 5 = 3 ∨ a % 5 = 4 := by omega
    rcases this with e | e | e | e | e <;> simp [e, Value.oneCell']
  have hst := run_storeCells_cells (P := Try.prog) b o zs 0 w (by rw [hlen]; simpa using hc) (by rw [hlen]; simpa using hf) h1
  simp only [Nat.add_zero] at hst
  obtain ⟨m, rfl⟩ : ∃ m, n = m + 1 := ⟨n - 1, by omega⟩
  have hzz : ∀ W : World, (zeroValue τ).run Try.prog W = .ok (.agg #[.int .i64 0, .int .i64 0, .int .i64 0, .slice none 0 0, .bool false]) W := fun W => by
    simp [zeroValue, typeInfo, hi, hz0]
  exact ⟨zs, hlen, by simp [Builtin.clear_, run_underlying hT.und, hzz, hzs, hst]⟩

theorem erase_len {es : List Ml} {i : Nat} (h : i < es.length) : (es.eraseIdx i).length = es.length - 1 := by simp [List.length_eraseIdx, h]
theorem mlCells_drop (a : List Ml) (n : Nat) : mlCells (a.drop n) = (mlCells a).drop (n * 5) := by
  induction a generalizing n with
  | nil => simp [mlCells]
  | cons e r ih =>
    cases n with
    | zero => simp
    | succ n =>
      have e1 : (n + 1) * 5 = n * 5 + 1 + 1 + 1 + 1 + 1 := by omega
      rw [e1]
      simp [mlCells, ih n]

set_option maxRecDepth 100000 in
set_option maxHeartbeats 4000000 in
/-- slices.Delete of one. -/
theorem delete_any (va : Option Addr) (cap i : Nat) (es : List Ml) (w : World) (h : MlsOw 41 0 w (.slice va es.length cap) es) (hi : i < es.length) (hn : es.length ≤ 100000) :
    Calls Try.prog 41 #[.slice va es.length cap, .int .i64 (i : Int), .int .i64 ((i : Int) + 1)] w fun e w' => e = .returned (.slice va (es.length - 1) cap) ∧ MlsOw 41 0 w' (.slice va (es.length - 1) cap) (es.eraseIdx i) ∧ Out (fun j => va = some ⟨j, 0, none⟩) w w' ∧ w'.heap.size = w.heap.size := by
  obtain ⟨g, cur, rfl, hgb, hcs, hlc, hcm, hcc⟩ := h.open (by omega)
  unfold maxLen at hcm
  obtain ⟨J, hJ⟩ : ∃ J, i + 1 = J := ⟨_, rfl⟩
  have HJ : Hid (i + 1 = J) := hJ
  have hJi : ((i : Int) + 1) = (J : Int) := by omega
  rw [hJi]
  obtain ⟨q, hq⟩ : ∃ q, i + (es.length - J) = q := ⟨_, rfl⟩
  have HQ : Hid (q = es.length - 1) := by show _ = _; omega
  have hgw : g < w.heap.size := (Array.getElem?_eq_some_iff.1 hgb).1
  have hcell : ∀ (W : World) (j : Nat), (∃ c, W.heap[g]? = some (.cells c 41 (0, 0)) ∧ c.size = cur.size) → j < cap * 5 → (W.cell? ⟨g, j, none⟩).isSome = true ∧ W.frozen? ⟨g, j, none⟩ = false := fun W j ⟨c, hc, hz⟩ hj => by
    refine ⟨?_, by simp [World.frozen?, hc]⟩
    simp only [World.cell?, hc]
    rw [Array.getElem?_eq_getElem (by omega)]
    rfl
  have hnl : (mlCells (es.drop J)).length = (es.length - J) * 5 := by rw [mlCells_length]; simp
  obtain ⟨c1, hc1, hz1, hg1⟩ := heap_setCells g (mlCells (es.drop J)) (i * 5) w cur 41 (0, 0) hgb
  obtain ⟨o1, oz1⟩ := out_setCells g (mlCells (es.drop J)) (i * 5) w
  obtain ⟨zs, hzl, hcl0⟩ := run_clear_mls tyM (w.setCells g (i * 5) (mlCells (es.drop J))).drew 0 g (q * 5) (es.length - q) (cap - q) (by omega) (fun j hj => (hcell _ _ ⟨c1, hc1, hz1⟩ (by omega)).1) (fun j hj => (hcell _ _ ⟨c1, hc1, hz1⟩ (by omega)).2)
  have hcl : ∀ ty, (Builtin.clear_ #[33] ty #[.slice (some ⟨g, q * 5, none⟩) (es.length - q) (cap - q)]).run Try.prog (w.setCells g (i * 5) (mlCells (es.drop J))).drew = .ok (.tuple #[]) ((w.setCells g (i * 5) (mlCells (es.drop J))).drew.setCells g (q * 5) zs) := fun ty => by rw [← hcl0]; rfl
  obtain ⟨c2, hc2, hz2, hg2⟩ := heap_setCells g zs (q * 5) (w.setCells g (i * 5) (mlCells (es.drop J))).drew c1 41 (0, 0) hc1
  obtain ⟨o2, oz2⟩ := out_setCells g zs (q * 5) (w.setCells g (i * 5) (mlCells (es.drop J))).drew
  have o3 : Out (fun j => j = g) w ((w.setCells g (i * 5) (mlCells (es.drop J))).drew.setCells g (q * 5) zs) := o1.trans (Y := fun j => j = g) ⟨o2.os, o2.tape, o2.output, o2.size, o2.block⟩ (fun _ hi _ => hi)
  have HF : Hid (MlsOw 41 0 ((w.setCells g (i * 5) (mlCells (es.drop J))).drew.setCells g (q * 5) zs) (.slice (some ⟨g, 0, none⟩) (es.length - 1) cap) (es.eraseIdx i) ∧ Out (fun j => (some ⟨g, 0, none⟩ : Option Addr) = some ⟨j, 0, none⟩) w ((w.setCells g (i * 5) (mlCells (es.drop J))).drew.setCells g (q * 5) zs) ∧ ((w.setCells g (i * 5) (mlCells (es.drop J))).drew.setCells g (q * 5) zs).heap.size = w.heap.size) := by
    refine ⟨?_, o3.mono (fun j hj => by rw [hj]), oz2.trans oz1⟩
    have hel := erase_len hi
    have := MlsOw.of (τ := 41) (cap := cap) (fs := es.eraseIdx i) hc2 (by omega) (by unfold maxLen; omega) (by omega) (fun j hj => ?_) (fun e he => ?_)
    · rw [hel] at this; exact this
    · rw [hel] at hj
      rw [hg2 j, if_neg (by omega), hg1 j]
      have hee : es.eraseIdx i = es.take i ++ es.drop J := by rw [← hJ, List.eraseIdx_eq_take_drop_succ]
      rw [hee, mlCells_append]
      have htl : (mlCells (es.take i)).length = i * 5 := by rw [mlCells_length]; simp; omega
      by_cases hji : j < i * 5
      · rw [if_neg (by omega), hcc j (by omega), List.getElem?_append_left (by omega), mlCells_take, List.getElem?_take, if_pos hji]
      · rw [if_pos (by omega), List.getElem?_append_right (by omega), htl]
    · have he' := List.mem_of_mem_eraseIdx he
      exact (h.dat e he').out o3 (by rintro k hk rfl; exact (h.dat e he').not_at hgb (by decide) hk)
  have HN : Hid (∀ j u, (mlCells (es.drop J))[j]? = some u → ∀ A : Addr, (if cap = J then some (⟨g, 0, none⟩ : Addr) else some ⟨g, J * 5, none⟩) = some A → w.drew.cell? (A.add j) = some u) := fun j u hu A hA => by
    have hjl := (List.getElem?_eq_some_iff.1 hu).1
    rw [hnl] at hjl
    rw [if_neg (by omega)] at hA
    cases hA
    rw [Addr.add_lit]
    show w.cell? _ = _
    simp only [World.cell?, hgb]
    rw [mlCells_drop, List.getElem?_drop] at hu
    rw [← hu, ← hcc _ (by omega)]
    simp
  obtain ⟨A, hA⟩ : ∃ A : Addr, (if cap = J then some (⟨g, 0, none⟩ : Addr) else some ⟨g, J * 5, none⟩) = some A := by
    by_cases h : cap = J
    · exact ⟨_, if_pos h⟩
    · exact ⟨_, if_neg h⟩
  obtain ⟨i0, hi0, hz0', hz1', hz2'⟩ := info_parts tyM.inf
  have HSP : Hid (∀ j, j < (mlCells (es.drop J)).length → (w.drew.cell? ⟨g, 0 + i * 5 + j, none⟩).isSome = true ∧ w.drew.frozen? ⟨g, 0 + i * 5 + j, none⟩ = false) := fun j hj => by
    rw [hnl] at hj
    exact hcell w.drew _ ⟨cur, hgb, rfl⟩ (by omega)
  have hone := mlCells_one (es.drop J)
  have hne : ((i : Int) == (J : Int)) = false := by simp; omega
  have hk1 : i ≤ J := by omega
  have hk2 : J ≤ es.length := by omega
  have hk3 : J ≤ cap := by omega
  have hk4 : i ≤ cap := by omega
  have hk5 : q ≤ es.length := by omega
  have hk6 : q ≤ cap := by omega
  have hk7 : ¬ cap = q := by omega
  have hk8 : i + (es.length - J) ≤ cap := by omega
  have HNA := fun j u hu => HN.out j u hu A hA
  have hdr : (w.drew.setCells g (0 + i * 5) (mlCells (es.drop J))) = (w.setCells g (i * 5) (mlCells (es.drop J))).drew := by
    rw [Nat.zero_add]
    exact (drew_setCells g _ _ _).symm
  have HE1 : Hid (es.length - 1 = q) := HQ.out.symm
  rw [HE1.out] at HF ⊢
  clear h hgb hcs hcc hcell hc1 hz1 hg1 o1 oz1 hcl0 hc2 hz2 hg2 o2 oz2 o3 HN hzl HJ hJ hJi HQ HE1 hcm
  generalize (w.setCells g (i * 5) (mlCells (es.drop J))).drew.setCells g (q * 5) zs = W9 at *
  generalize (w.setCells g (i * 5) (mlCells (es.drop J))).drew = W8 at *
  generalize mlCells (es.drop J) = news at *
  generalize es.length = n at *
  go_enter Try.func41, Try.ntmps41
  go_wp2_with fail
  go_region_law (refine step_append_room rfl (.tmp 22) (.tmp 25) 33 rfl 41 i0 5 tyM.und hi0 hz1' g 0 i cap (by simp [Act.eval, Act.put]) A (n - J) (cap - J) news (by simp [Act.eval, Act.put]; try exact hA) hnl HNA hone hk8 HSP.out ?_; rw [hdr])
  go_wp2
  go_ret
  exact ⟨rfl, HF.out⟩
end Go.Proofs.Ytefbfjlmhfmiiaa
