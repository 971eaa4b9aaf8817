/-
  Rows of ints of the call's own that may begin inside their block; cut, appended to; lists of such rows.
-/
import Derived.Test.YthaoobfldponpaaFi
namespace Go.Proofs.Ythaoobfldponpaa
open Go.RowKit
set_option linter.unusedVariables false

/-- v is a slice of the call's own that reads l; it may begin inside its block. -/
def Wo (W : World) (v : Value) (l : List Int) : Prop :=
  (v = .slice none 0 0 ∧ l = []) ∨ ∃ g off cap cur, v = .slice (some ⟨g, off, none⟩) l.length cap ∧ W.heap[g]? = some (.cells cur 3 (0, 0)) ∧ l.length ≤ cap ∧ off + cap ≤ cur.size ∧ cap ≤ maxLen ∧ (cur.toList.drop off).take l.length = l.map (Value.int .i64)

theorem Wo.nil (W : World) : Wo W (.slice none 0 0) [] := .inl ⟨rfl, rfl⟩
theorem Wo.of {N : Nat} {W : World} {v : Value} {l : List Int} (h : Ow N W v l) : Wo W v l := by
  rcases h.2 with ⟨rfl, h2⟩ | ⟨g, cap, cur, rfl, _, hb, h1, h2, h3, h4⟩
  · exact .inl ⟨rfl, List.length_eq_zero_iff.1 h2⟩
  · simp only [Nat.mul_one] at h3 h4
    exact .inr ⟨g, 0, cap, cur, rfl, hb, h1, by omega, h2, by simpa using h4⟩
theorem Wo.shape {W : World} {v : Value} {l : List Int} (h : Wo W v l) : ∃ a c, v = .slice a l.length c ∧ l.length ≤ c ∧ c ≤ maxLen := by
  rcases h with ⟨rfl, rfl⟩ | ⟨g, off, cap, cur, rfl, _, h1, _, h2, _⟩
  · exact ⟨none, 0, rfl, Nat.le_refl _, by unfold maxLen; omega⟩
  · exact ⟨_, _, rfl, h1, h2⟩
theorem Wo.sl {M : Nat} {W : World} {v : Value} {l : List Int} (h : Wo W v l) (hM : W.heap.size ≤ M) : Sl M W v l := by
  rcases h with ⟨rfl, rfl⟩ | ⟨g, off, cap, cur, rfl, hb, h1, h2, h3, h4⟩
  · exact Sl.nil _ _
  · refine ⟨_, _, rfl, h1, h3, .inr ⟨g, off, rfl, Nat.lt_of_lt_of_le (Array.getElem?_eq_some_iff.1 hb).1 hM, fun i hi => ?_⟩⟩
    have : ((cur.toList.drop off).take l.length)[i]? = (l.map (Value.int .i64))[i]? := by rw [h4]
    rw [List.getElem?_take, if_pos hi, List.getElem?_drop, List.getElem?_map, List.getElem?_eq_getElem hi] at this
    simp only [World.cell?, hb]
    rw [List.getElem?_eq_getElem hi]
    simpa using this
theorem Wo.out {X : Nat → Prop} {w w' : World} {v : Value} {l : List Int} (h : Wo w v l) (hO : Out X w w') (hx : ∀ g, v.ownBlock = some g → ¬ X g) : Wo w' v l := by
  rcases h with h2 | ⟨g, off, cap, cur, rfl, hb, r⟩
  · exact .inl h2
  · exact .inr ⟨g, off, cap, cur, rfl, (hO.block g (Array.getElem?_eq_some_iff.1 hb).1 (hx g rfl)).trans hb, r⟩
theorem Wo.lt {W : World} {v : Value} {l : List Int} (h : Wo W v l) {g : Nat} (hg : v.ownBlock = some g) : g < W.heap.size := by
  rcases h with ⟨rfl, _⟩ | ⟨g', off, cap, cur, rfl, hb, _⟩
  · simp [Value.ownBlock] at hg
  · simp [Value.ownBlock] at hg
    subst hg
    exact (Array.getElem?_eq_some_iff.1 hb).1
theorem Wo.not_at {W : World} {v : Value} {l : List Int} (h : Wo W v l) {R : Nat} {cs : Array Value} {t : TypeId} {z : Nat × Nat} (hR : W.heap[R]? = some (.cells cs t z)) (ht : t ≠ 3) : v.ownBlock ≠ some R := by
  rcases h with ⟨rfl, _⟩ | ⟨g', off, cap, cur, rfl, hb, _⟩
  · simp [Value.ownBlock]
  · intro e'
    obtain rfl : g' = R := by simpa [Value.ownBlock] using e'
    rw [hR] at hb
    simp at hb
    exact ht hb.2.1

/-- A slice s[k:]. -/
def cutV (a : Option Addr) (len c k : Nat) : Value := .slice (match a with | none => none | some ad => if c = k then some ad else some ⟨ad.block, ad.off + k, ad.spot⟩) (len - k) (c - k)
theorem Wo.cut {W : World} {a : Option Addr} {len c : Nat} {l : List Int} (h : Wo W (.slice a len c) l) (k : Nat) (hk : k ≤ l.length) : Wo W (cutV a len c k) (l.drop k) ∧ (∀ g, (cutV a len c k).ownBlock = some g → (Value.slice a len c).ownBlock = some g) := by
  rcases h with ⟨hv, rfl⟩ | ⟨g, off, cap, cur, hv, hb, h1, h2, h3, h4⟩
  · cases hv
    have : k = 0 := by simpa using hk
    subst this
    exact ⟨.inl ⟨rfl, rfl⟩, by simp [cutV, Value.ownBlock]⟩
  · cases hv
    refine ⟨.inr ?_, ?_⟩
    · by_cases hc : c = k
      · have hl : l.length = k := by omega
        have hd : l.drop k = [] := List.drop_eq_nil_of_le (by omega)
        refine ⟨g, off, c - k, cur, by simp [cutV, hc], hb, by simp; omega, by omega, by omega, by rw [hd]; simp⟩
      · refine ⟨g, off + k, c - k, cur, by simp [cutV, hc], hb, by simp; omega, by omega, by omega, ?_⟩
        rw [← List.drop_drop, List.length_drop, List.map_drop, ← h4, List.drop_take]
    · intro g' hg'
      by_cases hc : c = k <;> simpa [cutV, hc, Value.ownBlock] using hg'

theorem run_append_wo (ty : TypeId) (w : World) (v : Value) (l : List Int) (x : Int) (b c : Nat) (hv : Wo w v l) (hx : w.cell? ⟨b, 0, none⟩ = some (.int .i64 x)) (hlen : l.length + 1 ≤ 1099511627776) :
    ∃ v' w', (Builtin.append_ #[26, 26] ty #[v, .slice (some ⟨b, 0, none⟩) 1 c]).run Try.prog w = .ok v' w' ∧ Wo w' v' (l ++ [x]) ∧ w.grownBy w' v.ownBlock ∧ (v'.ownBlock = v.ownBlock ∨ v'.ownBlock = some w.heap.size) := by
  obtain ⟨i0, hi, hz0, hz1, hz2⟩ := info_parts info
  have hnews : ∀ j u, ([x].map (Value.int .i64))[j]? = some u → w.cell? ((⟨b, 0, none⟩ : Addr).add j) = some u := by
    intro j u hu
    rw [Addr.add_lit]
    cases j with
    | zero => simp at hu; subst hu; simpa using hx
    | succ j => simp at hu
  have h1 : ∀ u ∈ [x].map (Value.int .i64), u.oneCell' = true := by intro u hu; simp at hu; subst hu; rfl
  rcases hv with ⟨rfl, rfl⟩ | ⟨g, off, cap, cur, rfl, hb, hc1, hc2, hc3, hc4⟩
  · obtain ⟨v', w', r1, r2, r3, _, r5⟩ := run_append_own_at (P := Try.prog) w 0 26 ty 3 i0 (.int .i64 0) 1 8 Try.underlying26 hi hz0 hz1 hz2 rfl (by decide) (.slice none 0 0) 0 [] (World.ownsRow_nil _ _ _ _) ⟨b, 0, none⟩ 1 c ([x].map (Value.int .i64)) (by simp) hnews h1 (by unfold maxLen; omega) (by omega) (Nat.zero_le _)
    exact ⟨v', w', r1, Wo.of (N := 0) (l := [x]) r2, r3, r5⟩
  · by_cases hroom : l.length + 1 ≤ cap
    · have hf := run_firstCells_some (P := Try.prog) w i0.size 1 ⟨b, 0, none⟩ 1 c ([x].map (Value.int .i64)) (by rw [hz1]; simp) hnews
      have hst := run_storeCells_at Try.prog g (off + l.length * i0.size) 3 ([x].map (Value.int .i64)) 0 cur w hb (by rw [hz1]; simp; omega) h1
      simp only [Nat.add_zero] at hst
      have hr : (Builtin.append_ #[26, 26] ty #[.slice (some ⟨g, off, none⟩) l.length cap, .slice (some ⟨b, 0, none⟩) 1 c]).run Try.prog w = .ok (.slice (some ⟨g, off, none⟩) (l.length + 1) cap) (w.setRow g (cur.toList.take (off + l.length * i0.size) ++ [x].map (Value.int .i64) ++ cur.toList.drop (off + l.length * i0.size + ([x].map (Value.int .i64)).length)).toArray) := by
        simp [Builtin.append_, run_underlying Try.underlying26, sizeOf, typeInfo, hi, Builtin.lenOf, hroom] at hf hst ⊢
        simp [hf, Addr.add_lit, hst]
      rw [hz1] at hr
      simp only [Nat.mul_one] at hr
      refine ⟨_, _, hr, .inr ⟨g, off, cap, _, by simp, setRow_heap w g cur _ 3 _ hb, by simpa using hroom, ?_, hc3, ?_⟩, ⟨rfl, rfl, rfl, by simp, fun k _ hk => setRow_other w g k _ (fun e => hk (by simp [Value.ownBlock, e]))⟩, .inl rfl⟩
      · simp only [List.size_toArray, List.length_append, List.length_take, List.length_drop, Array.length_toList, List.length_map, List.length_singleton]
        omega
      · have e0 : cur.toList.take (off + l.length) = cur.toList.take off ++ l.map (Value.int .i64) := by rw [List.take_add, hc4]
        have hlo : (cur.toList.take off).length = off := by rw [List.length_take, Array.length_toList]; omega
        rw [e0]
        simp only [List.append_assoc]
        rw [List.drop_left' hlo, ← List.append_assoc]
        exact List.take_left' (by simp) |>.trans (by simp)
    · have holds : ∀ j u, (l.map (Value.int .i64))[j]? = some u → w.cell? ((⟨g, off, none⟩ : Addr).add j) = some u := by
        intro j u hu
        rw [← hc4, List.getElem?_take] at hu
        split at hu
        · rw [List.getElem?_drop] at hu
          rw [Addr.add_lit]
          simp only [World.cell?, hb]
          simpa using hu
        · cases hu
      have hr := run_append_grow (P := Try.prog) w 26 ty 3 i0 (.int .i64 0) Try.underlying26 hi hz0 ⟨g, off, none⟩ l.length cap (l.map (Value.int .i64)) (by rw [hz1]; simp) holds ⟨b, 0, none⟩ 1 c ([x].map (Value.int .i64)) (by rw [hz1]; simp) hnews (by omega) (by omega) (growslice_fits (by omega) (by rw [hz2]; omega))
      have hge := grownCap_ge w (l.length + 1) cap 3
      have hcm : grownCap w (l.length + 1) cap 3 ≤ maxLen := grownCap_le_maxLen w (l.length + 1) cap 3 (by unfold maxLen; omega)
      refine ⟨_, _, hr, .inr ⟨w.heap.size, 0, _, _, by simp, heap_alloc_new w.drew _, by simpa using hge, ?_, hcm, ?_⟩, ⟨rfl, rfl, rfl, by simp, fun k hk _ => heap_alloc_old w.drew _ hk⟩, .inr rfl⟩
      · simp only [Array.size_append, List.size_toArray, size_zeroCells, List.length_map, List.length_singleton]
        have : (Value.int IntKind.i64 0).cells.size = 1 := rfl
        rw [this]
        omega
      · simp only [Array.toList_append, List.append_assoc, List.drop_zero]
        rw [← List.append_assoc]
        have e2 : (l ++ [x]).map (Value.int .i64) = l.map (Value.int .i64) ++ [x].map (Value.int .i64) := by simp
        rw [e2]
        have e3 : (l ++ [x]).length = (l.map (Value.int .i64) ++ [x].map (Value.int .i64)).length := by simp
        rw [e3]
        exact List.take_left

/-- An append of one onto such a row, as a law of the walk. -/
theorem wpList_append_wo {ops : Array Oper} {rest : List Oper} {o : Oper} {a : Act} {Q : Exit → Act → World → Prop} {w : World} (hgd : o.guard = none) (s x : Operand)
    (ho : o.op = .call { callee := .builtin .append, args := #[s, x], argTypes := #[26, 26] })
    (v : Value) (l : List Int) (y : Int) (b c : Nat) (hs : a.eval s = v) (hv : Wo w v l) (hx : a.eval x = .slice (some ⟨b, 0, none⟩) 1 c) (hc : w.cell? ⟨b, 0, none⟩ = some (.int .i64 y)) (hlen : l.length + 1 ≤ 1099511627776)
    (h : ∀ v' w', Wo w' v' (l ++ [y]) → w.grownBy w' v.ownBlock → (v'.ownBlock = v.ownBlock ∨ v'.ownBlock = some w.heap.size) → wpList Try.prog ops Q rest (a.put o.dst v') w') :
    wpList Try.prog ops Q (o :: rest) a w := by
  refine wpList_plain hgd fun K hK => ?_
  obtain ⟨v', w', hr, h2, h3, h4⟩ := run_append_wo o.type w v l y b c hv hc hlen
  unfold Oper.wp execOp
  simp only [ho, resolve, invoke, builtin, Sem.run_bind, Sem.run_pure, Result.andThen_ok, List.map_toArray, List.map_cons, List.map_nil, hs, hx, hr]
  exact hK _ _ (h v' w' h2 h3 h4)

/-! ### lists of rows -/
/-- Block m holds n rows; their blocks lie in S. -/
structure Mx (N : Nat) (S : Nat → Prop) (w : World) (m n : Nat) (vs : Nat → Value) (L : Nat → List Int) : Prop where
  hm : ∃ cs, w.heap[m]? = some (.cells cs 26 (0, 0)) ∧ cs.size = n ∧ ∀ i, i < n → cs[i]? = some (vs i)
  rows : ∀ i, i < n → Wo w (vs i) (L i) ∧ ∀ g, (vs i).ownBlock = some g → S g
  ap : ∀ i j, i < n → j < n → i ≠ j → ∀ g, (vs i).ownBlock = some g → (vs j).ownBlock ≠ some g
  Sm : S m
  inn : ∀ i, S i → i < w.heap.size
  fr : ∀ i, S i → N ≤ i
theorem Mx.out {N : Nat} {S X : Nat → Prop} {w w' : World} {m n : Nat} {vs : Nat → Value} {L : Nat → List Int} (h : Mx N S w m n vs L) (hO : Out X w w') (hx : ∀ i, S i → ¬ X i) : Mx N S w' m n vs L := by
  obtain ⟨cs, hc, hr⟩ := h.hm
  exact ⟨⟨cs, (hO.block m (h.inn _ h.Sm) (hx _ h.Sm)).trans hc, hr⟩, fun i hi => ⟨(h.rows i hi).1.out hO (fun g hg => hx _ ((h.rows i hi).2 g hg)), (h.rows i hi).2⟩, h.ap, h.Sm, fun i hi => Nat.lt_of_lt_of_le (h.inn i hi) hO.size, h.fr⟩
theorem Mx.below {N : Nat} {S : Nat → Prop} {w w' : World} {m n : Nat} {vs : Nat → Value} {L : Nat → List Int} (h : Mx N S w m n vs L) (hB : Below w.heap.size w w') : Mx N S w' m n vs L :=
  h.out (X := fun _ => False) (Out.of_below hB) (fun _ _ hf => hf)
theorem Mx.cell {N : Nat} {S : Nat → Prop} {w : World} {m n : Nat} {vs : Nat → Value} {L : Nat → List Int} (h : Mx N S w m n vs L) {i : Nat} (hi : i < n) : w.cell? ⟨m, i, none⟩ = some (vs i) ∧ w.frozen? ⟨m, i, none⟩ = false := by
  obtain ⟨cs, hc, -, hr⟩ := h.hm
  refine ⟨?_, ?_⟩
  · simp only [World.cell?, hc]; exact hr i hi
  · simp [World.frozen?, hc]
theorem Mx.row {N : Nat} {S : Nat → Prop} {w : World} {m n : Nat} {vs : Nat → Value} {L : Nat → List Int} (h : Mx N S w m n vs L) {i : Nat} (hi : i < n) : ∃ a c, vs i = .slice a (L i).length c ∧ Wo w (.slice a (L i).length c) (L i) := by
  obtain ⟨a, c, e, -⟩ := (h.rows i hi).1.shape
  exact ⟨a, c, e, e ▸ (h.rows i hi).1⟩
/-- A row has turned, and its cell tells it. -/
theorem Mx.turn {N : Nat} {S : Nat → Prop} {w w1 : World} {m n i : Nat} {vs : Nat → Value} {L : Nat → List Int} {v' : Value} {l' : List Int} (h : Mx N S w m n vs L) (hN : N ≤ w.heap.size) (hi : i < n) (hO : Out (fun g => (vs i).ownBlock = some g) w w1) (hv' : Wo w1 v' l') (hg : ∀ g, v'.ownBlock = some g → (vs i).ownBlock = some g ∨ w.heap.size ≤ g) :
    Mx N (grew S w (w1.setCell ⟨m, i, none⟩ v')) (w1.setCell ⟨m, i, none⟩ v') m n (upd vs i v') (upd L i l') ∧ Out S w (w1.setCell ⟨m, i, none⟩ v') := by
  obtain ⟨cs, hc, hn, hr⟩ := h.hm
  have hne : ∀ j, j < n → (vs j).ownBlock ≠ some m := fun j hj => (h.rows j hj).1.not_at hc (by decide)
  have hc1 : w1.heap[m]? = some (.cells cs 26 (0, 0)) := (hO.block m (h.inn _ h.Sm) (hne i hi)).trans hc
  have hO1 : Out S w w1 := hO.mono (fun g hg' => (h.rows i hi).2 g hg')
  have hO2 : Out S w (w1.setCell ⟨m, i, none⟩ v') := hO1.put h.Sm
  have hne' : v'.ownBlock ≠ some m := hv'.not_at hc1 (by decide)
  have hs : Out (fun g => g = m) w1 (w1.setCell ⟨m, i, none⟩ v') := Out.set rfl
  refine ⟨⟨⟨cs.setIfInBounds i v', heap_set hc1 i v', by simpa using hn, ?_⟩, ?_, ?_, .inl h.Sm, ?_, ?_⟩, hO2⟩
  · intro j hj
    by_cases e : j = i
    · subst e
      rw [upd_at, Array.getElem?_setIfInBounds_self_of_lt (by omega)]
    · rw [upd_ne _ _ _ e, Array.getElem?_setIfInBounds_ne (fun e' => e e'.symm)]
      exact hr j hj
  · intro j hj
    by_cases e : j = i
    · subst e
      rw [upd_at, upd_at]
      refine ⟨hv'.out hs (fun g hg' e => hne' (e ▸ hg')), fun g hg' => ?_⟩
      rcases hg g hg' with h1 | h1
      · exact .inl ((h.rows j hj).2 g h1)
      · exact .inr ⟨h1, by rw [size_set]; exact hv'.lt hg'⟩
    · rw [upd_ne _ _ _ e, upd_ne _ _ _ e]
      refine ⟨(((h.rows j hj).1.out hO (fun g hg' hx => h.ap j i hj hi e g hg' hx)).out hs (fun g hg' e => hne j hj (e ▸ hg'))), fun g hg' => .inl ((h.rows j hj).2 g hg')⟩
  · have key : ∀ j, j < n → j ≠ i → ∀ g, v'.ownBlock = some g → (vs j).ownBlock ≠ some g := fun j hj e g hg' hx => by
      rcases hg g hg' with h1 | h1
      · exact h.ap i j hi hj (fun e' => e e'.symm) g h1 hx
      · have := h.inn _ ((h.rows j hj).2 g hx); omega
    intro j k hj hk hne2 g hg' hx
    by_cases e : j = i
    · subst e
      rw [upd_at] at hg'
      rw [upd_ne _ _ _ (fun e' => hne2 e'.symm)] at hx
      exact key k hk (fun e' => hne2 e'.symm) g hg' hx
    · rw [upd_ne _ _ _ e] at hg'
      by_cases e2 : k = i
      · subst e2
        rw [upd_at] at hx
        exact key j hj e g hx hg'
      · rw [upd_ne _ _ _ e2] at hx
        exact h.ap j k hj hk hne2 g hg' hx
  · rintro g (hg' | hg')
    · exact Nat.lt_of_lt_of_le (h.inn g hg') hO2.size
    · exact hg'.2
  · rintro g (hg' | hg')
    · exact h.fr g hg'
    · omega

theorem infoM : (Try.prog.info? 26).map (fun i => (i.zero, i.size, i.bytes)) = some (some (.slice none 0 0), 1, 24) := by kernel_rfl
/-- make([][]int, n). -/
theorem run_mx (N n : Nat) (hn : n ≤ 64) (w : World) (hN : N ≤ w.heap.size) : ∃ cs : Array Value, (Instr.makeSlice 42 (.int .i64 (n : Int)) (.int .i64 (n : Int))).run Try.prog w = .ok (.slice (some ⟨w.heap.size, 0, none⟩) n n) (w.alloc (.cells cs 26)) ∧ Mx N (fun i => i = w.heap.size) (w.alloc (.cells cs 26)) w.heap.size n (fun _ => .slice none 0 0) (fun _ => []) := by
  obtain ⟨i0, hi, hz0, hz1, hz2⟩ := info_parts infoM
  have h := run_make (P := Try.prog) w 42 26 i0 (.slice none 0 0) Try.underlying42 hi hz0 .i64 .i64 n n (by omega) (by omega) (by rw [hz2]; omega) (by omega)
  rw [hz1] at h
  simp only [Int.toNat_natCast, Nat.mul_one] at h
  refine ⟨_, h, ⟨⟨_, heap_alloc_new w _, size_madeCells _ _, fun i hi => ?_⟩, fun i hi => ⟨Wo.nil _, by simp [Value.ownBlock]⟩, fun i j _ _ _ g hg => by simp [Value.ownBlock] at hg, rfl, by rintro i rfl; simp, by rintro i rfl; exact hN⟩⟩
  simp [madeCells, Value.cells, hi, Nat.mod_one]


/-- How many things there are in the first k lanes. -/
def tot (ls : Nat → List Int) : Nat → Nat
  | 0 => 0
  | k + 1 => tot ls k + (ls k).length
theorem tot_le {ls : Nat → List Int} {room : Nat} : ∀ {n : Nat}, (∀ i, i < n → (ls i).length ≤ room) → tot ls n ≤ n * room
  | 0, _ => by simp [tot]
  | n + 1, h => by
    have := tot_le (n := n) (fun i hi => h i (by omega))
    have := h n (by omega)
    simp only [tot, Nat.add_mul]
    omega
theorem tot_upd {ls : Nat → List Int} {i : Nat} {l : List Int} : ∀ {n : Nat}, tot (upd ls i l) n + (if i < n then (ls i).length else 0) = tot ls n + (if i < n then l.length else 0)
  | 0 => by simp [tot]
  | n + 1 => by
    have ih := tot_upd (ls := ls) (i := i) (l := l) (n := n)
    simp only [tot]
    by_cases e : i = n
    · subst e
      simp at ih
      rw [upd_at]
      simp
      omega
    · rw [upd_ne _ _ _ (fun e' => e e'.symm)]
      by_cases h : i < n
      · rw [if_pos h, if_pos h] at ih
        rw [if_pos (by omega), if_pos (by omega)]
        omega
      · rw [if_neg h, if_neg h] at ih
        rw [if_neg (by omega), if_neg (by omega)]
        omega

set_option maxRecDepth 100000 in
set_option maxHeartbeats 2000000 in
theorem llen_any {N : Nat} {S : Nat → Prop} {w : World} {d n room nx : Nat} {ls : Nat → List Int} (h : La N S w d n room nx ls) :
    Calls Try.prog 39 #[.pointer (some ⟨d, 0, none⟩)] w fun e w' => e = .returned (.int .i64 (tot ls n : Int)) ∧ w' = w := by
  obtain ⟨c, bs, F, h⟩ := h
  obtain ⟨⟨c0, -⟩, cp⟩ := h.cells
  have hn := h.n64
  have HT : Hid (∀ k, k ≤ n → tot ls k ≤ 4096) := fun k hk => by
    have h1 := tot_le (ls := ls) (room := 64) (n := k) (fun i hi => Nat.le_trans (h.qs i (by omega)).len (h.qs i (by omega)).rm)
    omega
  have HQ : Hid (∀ i, i < n → w.cell? ⟨c, i, none⟩ = some (.pointer (some ⟨bs i, 0, none⟩)) ∧ Calls Try.prog 27 #[.pointer (some ⟨bs i, 0, none⟩)] w fun e w' => e = .returned (.int .i64 ((ls i).length : Int)) ∧ w' = w) := fun i hi => ⟨cp i hi, len_any (h.qs i hi)⟩
  clear h cp
  go_enter Try.func39, Try.ntmps39
  go_wp2
  go_loopw [3, 11] (fun nv kv wr => ∃ k : Nat, kv = .int .i64 (k : Int) ∧ nv = .int .i64 (tot ls k : Int) ∧ k ≤ n ∧ wr = w) (fun _ kv _ => n - (intOf kv).toNat)
  case atStart => exact ⟨0, rfl, rfl, Nat.zero_le _, rfl⟩
  case round =>
    obtain ⟨k, rfl, rfl, hk, rfl⟩ := hrel
    by_cases hkn : k < n
    · have hkn' : (k : Int) < (n : Int) := by omega
      obtain ⟨ck, HL⟩ := HQ.out k hkn
      have hb := HT.out (k + 1) (by omega)
      have HE : Hid (tot ls (k + 1) = tot ls k + (ls k).length) := rfl
      rw [HE.out] at hb
      obtain ⟨T1, HT1⟩ : ∃ T1, Hid (tot ls (k + 1) = T1) := ⟨_, rfl⟩
      have hw : IntKind.i64.wrap ((tot ls k : Int) + ((ls k).length : Int)) = (T1 : Int) := by rw [IntKind.wrap_i64, ← HT1.out, HE.out]; omega
      clear HE
      generalize tot ls k = T0 at *
      go_wp2_with (go_at_call 27; refine HL.mono ?_; rintro e w1 ⟨rfl, hw1⟩; subst w1)
      exact ⟨⟨k + 1, by go_num, by rw [HT1.out], by omega, by trivial⟩, by simp [intOf]; omega⟩
    · have hkn' : decide ((k : Int) < (n : Int)) = false := by simp; omega
      obtain rfl : k = n := by omega
      go_wp2
      go_ret
      exact ⟨rfl, rfl⟩

end Go.Proofs.Ythaoobfldponpaa
