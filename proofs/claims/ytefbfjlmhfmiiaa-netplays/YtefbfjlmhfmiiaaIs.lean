/-
  slices.Insert of one mail; Move.
-/
import Derived.Test.YtefbfjlmhfmiiaaSp
import Derived.Lib.Overlaps
import Derived.Laws.IdiomCopy
import Derived.Laws.Externs
namespace Go.Proofs.Ytefbfjlmhfmiiaa
open Go.RowKit
set_option linter.unusedVariables false

theorem run_copy_mls {σ τ : TypeId} (hT : TyM σ τ) (w : World) (ty : TypeId) (b o dLen dCap : Nat) (a : Addr) (sLen sCap n : Nat) (cs : List Value)
    (hn : cs.length = n * 5) (hm : n = Nat.min sLen dLen)
    (hsrc : ∀ j v, cs[j]? = some v → w.cell? (a.add j) = some v) (hc : ∀ j, j < cs.length → (w.cell? ⟨b, o + j, none⟩).isSome = true) (hf : ∀ j, j < cs.length → w.frozen? ⟨b, o + j, none⟩ = false) (h1 : ∀ v ∈ cs, v.oneCell' = true) :
    (Builtin.copy_ #[σ, σ] ty #[.slice (some ⟨b, o, none⟩) dLen dCap, .slice (some a) sLen sCap]).run Try.prog w = .ok (goInt n) (w.setCells b o cs) := by
  obtain ⟨i0, hi, hz0, hz1, hz2⟩ := info_parts hT.inf
  have hl := run_loadCells_list (P := Try.prog) w a cs hsrc
  have hst := run_storeCells_cells (P := Try.prog) b o cs 0 w (by simpa using hc) (by simpa using hf) h1
  rw [hn] at hl
  simp [Builtin.copy_, run_underlying hT.und, Builtin.lenOf, Builtin.firstCells, sizeOf, typeInfo, hi, hz1, ← hm, hl, hst]

theorem step_copy_run {ops : Array Oper} {o : Oper} {a : Act} {w : World} {K : Act → World → Prop} {Q : Exit → Act → World → Prop} {E : Prop}
    (hg : o.guard = none) (d x : Operand) (dT sT : TypeId) (hop : o.op = Op.call { callee := Callee.builtin Builtin.copy, args := #[d, x], argTypes := #[dT, sT] })
    (v u : Value) (hd : a.eval d = v) (hx : a.eval x = u) {v' : Value} {w' : World} (hr : (Builtin.copy_ #[dT, sT] o.type #[v, u]).run Try.prog w = .ok v' w') (hK : K (a.put o.dst v') w') :
    if Region.wanted o (yielded ops a.tmps) = true then Oper.wp Try.prog o a w K Q else E := by
  have hw : Region.wanted o (yielded ops a.tmps) = true := by simp [Region.wanted, hg]
  rw [if_pos hw]
  unfold Oper.wp
  simp [execOp, hop, resolve, invoke, builtin, hd, hx, hr, Result.andThen]
  exact hK
theorem wpList_copy_run (w : World) {ops : Array Oper} {rest : List Oper} {o : Oper} {a : Act} {Q : Exit → Act → World → Prop} (hgd : o.guard = none) (d s : Operand) (t t' : TypeId)
    (ho : o.op = .call { callee := .builtin .copy, args := #[d, s], argTypes := #[t, t'] }) (v u : Value) (hd : a.eval d = v) (hs : a.eval s = u) {v' : Value} {w' : World}
    (hr : (Builtin.copy_ #[t, t'] o.type #[v, u]).run Try.prog w = .ok v' w') (h : wpList Try.prog ops Q rest (a.put o.dst v') w') : wpList Try.prog ops Q (o :: rest) a w :=
  wpList_plain hgd fun K hK => by
    unfold Oper.wp execOp
    simp only [ho, resolve, invoke, builtin, Sem.run_bind, Sem.run_pure, Result.andThen_ok, List.map_toArray, List.map_cons, List.map_nil, hd, hs, hr]
    exact hK _ _ h

/-- A list with one put in. -/
def putAt (es : List Ml) (i : Nat) (e : Ml) : List Ml := es.take i ++ e :: es.drop i
theorem putAt_len (es : List Ml) (i : Nat) (e : Ml) : (putAt es i e).length = es.length + 1 := by
  unfold putAt
  simp
  omega

set_option maxRecDepth 100000 in
set_option maxHeartbeats 4000000 in
/-- slices.Insert of one, at the end. -/
theorem insert_end (va : Option Addr) (cap V vc : Nat) (es : List Ml) (e : Ml) (w : World) (h : MlsOw 41 0 w (.slice va es.length cap) es) (hn : es.length ≤ 100000) (hV : MlsAt w.heap.size w (some ⟨V, 0, none⟩) [e]) (hd : Ow 0 w e.x e.d) :
    Calls Try.prog 42 #[.slice va es.length cap, .int .i64 (es.length : Int), .slice (some ⟨V, 0, none⟩) 1 vc] w fun r w' => ∃ v', r = .returned v' ∧ MlsOw 41 0 w' v' (es ++ [e]) ∧ Out (fun j => (Value.slice va es.length cap).ownBlock = some j) w w' ∧ (v'.ownBlock = (Value.slice va es.length cap).ownBlock ∨ v'.ownBlock = some w.heap.size) := by
  have hsh := h.shape
  obtain ⟨_, _, heq, hlc, hcm⟩ := hsh
  cases heq
  unfold maxLen at hcm
  have HF : Hid (∀ v' w', w'.ownsRow 0 41 5 v' (es.length + 1) (mlCells es ++ mlCells [e]) → w.grownBy w' (Value.slice va es.length cap).ownBlock → MlsOw 41 0 w' v' (es ++ [e]) ∧ Out (fun j => (Value.slice va es.length cap).ownBlock = some j) w w') := fun v' w' q1 q2 =>
    ⟨h.app (by decide) (fun x hx => by obtain rfl := List.mem_singleton.1 hx; exact hd) (by simpa using q1) q2, Out.grown q2 (fun j hj => hj)⟩
  have hrow := h.row
  have hlen : es.length + [e].length ≤ 1000000000 := by simp; omega
  obtain ⟨ob, hob⟩ : ∃ ob, (Value.slice va es.length cap).ownBlock = ob := ⟨_, rfl⟩
  have HOB : Hid ((Value.slice va es.length cap).ownBlock = ob) := hob
  rw [hob] at HF ⊢
  clear h hd hob
  go_enter Try.func42, Try.ntmps42
  go_wp2_with (at_builtin; refine wpList_append_mls tyM rfl _ _ rfl 0 w.heap.size (.slice va es.length cap) (some ⟨V, 0, none⟩) vc es [e] rfl hrow rfl hV hlen (Nat.zero_le _) ?_; intro v' w' q1 q2 q3; rw [HOB.out] at q2 q3; have HQ : Hid (_ ∧ _) := HF.out v' w' q1 q2; have HV : Hid (_ ∨ _) := q3; clear q1 q2 q3)
  all_goals (go_ret; exact ⟨v', rfl, HQ.out.1, HQ.out.2, HV.out⟩)

theorem putAt_cells (es : List Ml) (i : Nat) (e : Ml) (hi : i < es.length) (j : Nat) (hj : j < (es.length + 1) * 5) : (mlCells (putAt es i e))[j]? = if j < i * 5 then (mlCells es)[j]? else if j < i * 5 + 5 then (mlCells [e])[j - i * 5]? else (mlCells (es.drop i))[j - (i + 1) * 5]? := by
  have hee : mlCells (putAt es i e) = mlCells (es.take i) ++ (mlCells [e] ++ mlCells (es.drop i)) := by
    unfold putAt
    rw [mlCells_append]
    rfl
  have htl : (mlCells (es.take i)).length = i * 5 := by rw [mlCells_length]; simp; omega
  have hl5 : (mlCells [e]).length = 5 := rfl
  rw [hee]
  by_cases h1 : j < i * 5
  · rw [if_pos h1, List.getElem?_append_left (by omega), mlCells_take, List.getElem?_take, if_pos h1]
  · rw [if_neg h1, List.getElem?_append_right (by omega), htl]
    by_cases h2 : j < i * 5 + 5
    · rw [if_pos h2, List.getElem?_append_left (by omega)]
    · rw [if_neg h2, List.getElem?_append_right (by omega), hl5]
      congr 1
      omega
theorem put_if {α : Type} (i n j s1 s2 : Nat) (a b c : α) (hs2 : (n + 1) * 5 ≤ s2) (hs : s1 = s2) (hi : i < n) (hj : j < (n + 1) * 5) : (if i * 5 ≤ j ∧ j < i * 5 + 5 ∧ j < s1 then a else if (i + 1) * 5 ≤ j ∧ j < (i + 1) * 5 + (n - i) * 5 ∧ j < s2 then b else c) = if j < i * 5 then c else if j < i * 5 + 5 then a else b := by
  by_cases h1 : j < i * 5
  · rw [if_neg (by omega), if_neg (by omega), if_pos h1]
  · rw [if_neg h1]
    by_cases h2 : j < i * 5 + 5
    · rw [if_pos (by omega), if_pos h2]
    · rw [if_neg (by omega), if_pos (by omega), if_neg h2]

set_option maxRecDepth 100000 in
set_option maxHeartbeats 4000000 in
/-- slices.Insert of one, inside. -/
theorem insert_in (g cap V vc i : Nat) (es : List Ml) (e : Ml) (w : World) (h : MlsOw 41 0 w (.slice (some ⟨g, 0, none⟩) es.length cap) es) (hn : es.length ≤ 100000) (hi : i < es.length) (hroom : es.length + 1 ≤ cap) (hV : w.heap[V]? = some (.cells #[.int .i64 e.n, .int .i64 e.f, .int .i64 e.t, e.x, .bool e.s] 41 (0, 0))) (hVg : V ≠ g) (hd : Ow 0 w e.x e.d) :
    Calls Try.prog 42 #[.slice (some ⟨g, 0, none⟩) es.length cap, .int .i64 (i : Int), .slice (some ⟨V, 0, none⟩) 1 vc] w fun r w' => r = .returned (.slice (some ⟨g, 0, none⟩) (es.length + 1) cap) ∧ MlsOw 41 0 w' (.slice (some ⟨g, 0, none⟩) (es.length + 1) cap) (putAt es i e) ∧ Out (fun j => j = g) w w' ∧ w'.heap.size = w.heap.size := by
  obtain ⟨g', cur, hge, hgb, hcs, hlc, hcm, hcc⟩ := h.open (by omega)
  cases hge
  have hgw : g < w.heap.size := (Array.getElem?_eq_some_iff.1 hgb).1
  have hVw : V < w.heap.size := (Array.getElem?_eq_some_iff.1 hV).1
  have hcell : ∀ (W : World) (j : Nat), (∃ c, W.heap[g]? = some (.cells c 41 (0, 0)) ∧ c.size = cur.size) → j < cap * 5 → (W.cell? ⟨g, j, none⟩).isSome = true ∧ W.frozen? ⟨g, j, none⟩ = false := fun W j ⟨c, hc, hz⟩ hj => by
    refine ⟨?_, by simp [World.frozen?, hc]⟩
    simp only [World.cell?, hc]
    rw [Array.getElem?_eq_getElem (by omega)]
    rfl
  have hdl : (mlCells (es.drop i)).length = (es.length - i) * 5 := by rw [mlCells_length]; simp
  obtain ⟨c1, hc1, hz1, hg1⟩ := heap_setCells g (mlCells (es.drop i)) ((i + 1) * 5) w.drew cur 41 (0, 0) hgb
  obtain ⟨o1, oz1⟩ := out_setCells g (mlCells (es.drop i)) ((i + 1) * 5) w.drew
  obtain ⟨W1, hW1⟩ : ∃ W1, w.drew.setCells g ((i + 1) * 5) (mlCells (es.drop i)) = W1 := ⟨_, rfl⟩
  rw [hW1] at hc1 o1 oz1
  have hV1 : W1.heap[V]? = some (.cells #[.int .i64 e.n, .int .i64 e.f, .int .i64 e.t, e.x, .bool e.s] 41 (0, 0)) := (o1.block V hVw (fun e => hVg e)).trans hV
  have hcp1 : ∀ ty dc sc, (Builtin.copy_ #[33, 33] ty #[.slice (some ⟨g, (i + 1) * 5, none⟩) (es.length + 1 - (i + 1)) dc, .slice (some ⟨g, i * 5, none⟩) (es.length + 1 - i) sc]).run Try.prog w.drew = .ok (goInt ((es.length - i : Nat) : Int)) W1 := fun ty dc sc => by
    rw [← hW1]
    refine run_copy_mls tyM w.drew ty g ((i + 1) * 5) (es.length + 1 - (i + 1)) dc ⟨g, i * 5, none⟩ (es.length + 1 - i) sc (es.length - i) (mlCells (es.drop i)) hdl (by show _ = min _ _; omega) (fun j v hj => ?_) (fun j hj => (hcell w.drew _ ⟨cur, hgb, rfl⟩ (by rw [hdl] at hj; omega)).1) (fun j hj => (hcell w.drew _ ⟨cur, hgb, rfl⟩ (by rw [hdl] at hj; omega)).2) (mlCells_one _)
    have hjl := (List.getElem?_eq_some_iff.1 hj).1
    rw [hdl] at hjl
    rw [Addr.add_lit]
    show w.cell? _ = _
    simp only [World.cell?, hgb]
    rw [mlCells_drop, List.getElem?_drop] at hj
    rw [← hj, ← hcc _ (by omega)]
    simp
  obtain ⟨c2, hc2, hz2, hg2⟩ := heap_setCells g (mlCells [e]) (i * 5) W1 c1 41 (0, 0) hc1
  obtain ⟨o2, oz2⟩ := out_setCells g (mlCells [e]) (i * 5) W1
  have hcp2 : ∀ ty dc, (Builtin.copy_ #[33, 33] ty #[.slice (some ⟨g, i * 5, none⟩) (es.length + 1 - i) dc, .slice (some ⟨V, 0, none⟩) 1 vc]).run Try.prog W1 = .ok (goInt ((1 : Nat) : Int)) (W1.setCells g (i * 5) (mlCells [e])) := fun ty dc => by
    refine run_copy_mls tyM W1 ty g (i * 5) (es.length + 1 - i) dc ⟨V, 0, none⟩ 1 vc 1 (mlCells [e]) rfl (by show 1 = min _ _; omega) (fun j v hj => ?_) (fun j hj => (hcell W1 _ ⟨c1, hc1, hz1⟩ (by have : (mlCells [e]).length = 5 := rfl; omega)).1) (fun j hj => (hcell W1 _ ⟨c1, hc1, hz1⟩ (by have : (mlCells [e]).length = 5 := rfl; omega)).2) (mlCells_one _)
    rw [Addr.add_lit]
    simp only [World.cell?, hV1, Nat.zero_add]
    simpa [mlCells] using hj
  have o3 : Out (fun j => j = g) w (W1.setCells g (i * 5) (mlCells [e])) := (show Out (fun j => j = g) w W1 from ⟨o1.os, o1.tape, o1.output, o1.size, o1.block⟩).trans o2 (fun _ hi _ => hi)
  have hVs : w.shape? V = some (41, 5) := by simp [World.shape?, hV]
  have hgs : w.shape? g = some (41, cur.size) := by simp [World.shape?, hgb]
  have hov : ∀ lb cb, (callFunc 49 #[.slice (some ⟨V, 0, none⟩) 1 vc, .slice (some ⟨g, (i + 1) * 5, none⟩) lb cb]).run Try.prog w = .ok (.value (.bool false)) w := fun lb cb => by
    have hsz : ∀ w, (Go.sizeOf 41).run Try.prog w = .ok 5 w := fun w => by
      obtain ⟨i0, hi0, hz0, hz1, hz2⟩ := info_parts tyM.inf
      simp [sizeOf, typeInfo, hi0, hz1]
    rw [run_callFunc_extern (P := Try.prog) Try.func49 (by kernel_rfl) (by kernel_rfl) (by kernel_rfl) (e := Extern.SlicesOverlaps.overlaps #[33, 33] #[4]) (by kernel_rfl),
      Lib.run_overlaps_apart w 33 4 41 tyM.und 5 hsz ⟨V, 0, none⟩ ⟨g, (i + 1) * 5, none⟩ 1 vc lb cb hVg 41 41 5 cur.size hVs hgs (by omega) (by simp [World.frozen?, hV]) (by simp [World.frozen?, hV])]
    rfl
  have HF : Hid (MlsOw 41 0 (W1.setCells g (i * 5) (mlCells [e])) (.slice (some ⟨g, 0, none⟩) (es.length + 1) cap) (putAt es i e) ∧ Out (fun j => j = g) w (W1.setCells g (i * 5) (mlCells [e])) ∧ (W1.setCells g (i * 5) (mlCells [e])).heap.size = w.heap.size) := by
    refine ⟨?_, o3, oz2.trans oz1⟩
    have hpl := putAt_len es i e
    have hl5 : (mlCells [e]).length = 5 := rfl
    have := MlsOw.of (τ := 41) (cap := cap) (fs := putAt es i e) hc2 (by rw [hz2, hz1]; exact hcs) hcm (by rw [hpl]; exact hroom) (fun j hj => ?_) (fun x hx => ?_)
    · rw [hpl] at this; exact this
    · rw [hpl] at hj
      rw [hg2 j, hg1 j, hl5, hdl, putAt_cells es i e hi j hj]
      have hs2 : (es.length + 1) * 5 ≤ cur.size := by rw [hcs]; exact Nat.mul_le_mul_right 5 hroom
      rw [put_if i es.length j _ _ _ _ _ hs2 hz1 hi hj]
      by_cases h1 : j < i * 5
      · rw [if_pos h1, if_pos h1]
        exact hcc j (Nat.lt_of_lt_of_le h1 (Nat.mul_le_mul_right 5 (Nat.le_of_lt hi)))
      · rw [if_neg h1, if_neg h1]
    · have hx' : x ∈ es ∨ x = e := by
        unfold putAt at hx
        rcases List.mem_append.1 hx with hx | hx
        · exact .inl (List.mem_of_mem_take hx)
        · rcases List.mem_cons.1 hx with hx | hx
          · exact .inr hx
          · exact .inl (List.mem_of_mem_drop hx)
      have hox : Ow 0 w x.x x.d := hx'.elim (fun h' => h.dat x h') (fun h' => h' ▸ hd)
      exact hox.out o3 (by rintro k hk rfl; exact hox.not_at hgb (by decide) hk)
  unfold maxLen at hcm
  have z1 : ¬ ((i : Int) = (es.length : Int)) := by omega
  have hw1 : IntKind.i64.wrap ((i : Int) + 1) = (i : Int) + 1 := by rw [IntKind.wrap_i64]; omega
  have hb1 : (0 : Int) ≤ (i : Int) + 1 := by omega
  have hin : i ≤ es.length := by omega
  have htn : ((i : Int) + 1).toNat = i + 1 := by omega
  have htn2 : ((es.length : Int) + 1).toNat = es.length + 1 := by omega
  have hb2 : ¬ (cap = i + 1) := by omega
  have hb3 : (i : Int) ≤ (es.length : Int) + 1 := by omega
  have hb4 : ¬ (cap = i) := by omega
  have hb5 : (es.length : Int) + 1 ≤ (cap : Int) := by omega
  have hb6 : i ≤ cap := by omega
  have hb7 : es.length + 1 ≤ cap := hroom
  have hb8 : i + 1 ≤ es.length + 1 := by omega
  have hb9 : i ≤ es.length + 1 := by omega
  have hne : ((i : Int) == (es.length : Int)) = false := by simp; omega
  clear h hgb hcs hcc hcell hc1 hz1 hg1 o1 oz1 hc2 hz2 hg2 o2 oz2 o3 hVs hgs hV hV1 hd hdl
  generalize W1.setCells g (i * 5) (mlCells [e]) = W2 at *
  generalize es.length = n at *
  have HCP1 : Hid (∀ ty dc sc, _ = _) := hcp1
  have HCP2 : Hid (∀ ty dc, _ = _) := hcp2
  clear hcp1 hcp2 hW1
  go_enter Try.func42, Try.ntmps42
  go_wp2_with (simp only [hov])
  clear hov
  go_region_law (refine step_copy_run rfl (.tmp 73) (.tmp 76) 33 33 rfl (.slice (some ⟨g, (i + 1) * 5, none⟩) (n + 1 - (i + 1)) (cap - (i + 1))) (.slice (some ⟨g, i * 5, none⟩) (n + 1 - i) (cap - i)) (by simp [Act.eval, Act.put]) (by simp [Act.eval, Act.put]) (HCP1.out _ _ _) ?_)
  have hcq := HCP2.out
  go_wp2
  go_ret
  exact ⟨rfl, HF.out⟩

theorem putAt_says {es : List Ml} {E : List Ma} (hs : es.map Ml.says = E) (i : Nat) (e : Ml) : (putAt es i e).map Ml.says = E.take i ++ e.says :: E.drop i := by
  unfold putAt
  rw [List.map_append, List.map_cons, List.map_take, List.map_drop, hs]
theorem putAt_perm (es : List Ml) (i : Nat) (e : Ml) : (putAt es i e).Perm (e :: es) := by
  unfold putAt
  have := List.perm_middle (a := e) (l₁ := es.take i) (l₂ := es.drop i)
  rw [List.take_append_drop] at this
  exact this
theorem mem_putAt {es : List Ml} {i : Nat} {e x : Ml} (h : x ∈ putAt es i e) : x = e ∨ x ∈ es := by
  simpa using (putAt_perm es i e).mem_iff.1 h
theorem pairwise_putAt {es : List Ml} {i : Nat} {e : Ml} (h : es.Pairwise Apt) (he : ∀ f ∈ es, Apt e f) : (putAt es i e).Pairwise Apt :=
  (putAt_perm es i e).symm.pairwise (List.pairwise_cons.2 ⟨he, h⟩) (fun h => h.symm)
end Go.Proofs.Ytefbfjlmhfmiiaa
