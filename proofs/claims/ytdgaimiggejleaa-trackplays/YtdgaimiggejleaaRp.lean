/-
  The document's progress in memory; what New, Snap, May, Rejected do.
-/
import Derived.Test.YtdgaimiggejleaaPk
namespace Go.Proofs.Ytdgaimiggejleaa
open Go.RowKit
set_option linter.unusedVariables false

/-- v is a slice of the call's own that reads l; it may begin inside its block. -/
def Wo (W : World) (v : Value) (l : List Int) : Prop :=
  (v = .slice none 0 0 ∧ l = []) ∨ ∃ g off cap cur, v = .slice (some ⟨g, off, none⟩) l.length cap ∧ W.heap[g]? = some (.cells cur 3 (0, 0)) ∧ l.length ≤ cap ∧ off + cap ≤ cur.size ∧ cap ≤ maxLen ∧ (cur.toList.drop off).take l.length = l.map (Value.int .i64)

theorem Wo.nil (W : World) : Wo W (.slice none 0 0) [] := .inl ⟨rfl, rfl⟩
theorem Wo.of {N : Nat} {W : World} {v : Value} {l : List Int} (h : Ow N W v l) : Wo W v l := by
  rcases h.2 with ⟨rfl, h2⟩ | ⟨g, cap, cur, rfl, _, hb, h1, h2, h3, h4⟩
  · exact .inl ⟨rfl, List.length_eq_zero_iff.1 h2⟩
  · simp only [Nat.mul_one] at h3 h4
    exact .inr ⟨g, 0, cap, cur, rfl, hb, h1, by omega, h2, by simpa using h4⟩
theorem Wo.shape {W : World} {v : Value} {l : List Int} (h : Wo W v l) : ∃ a c, v = .slice a l.length c ∧ l.length ≤ c ∧ c ≤ maxLen := by
  rcases h with ⟨rfl, rfl⟩ | ⟨g, off, cap, cur, rfl, _, h1, _, h2, _⟩
  · exact ⟨none, 0, rfl, Nat.le_refl _, by unfold maxLen; omega⟩
  · exact ⟨_, _, rfl, h1, h2⟩
theorem Wo.sl {M : Nat} {W : World} {v : Value} {l : List Int} (h : Wo W v l) (hM : W.heap.size ≤ M) : Sl M W v l := by
  rcases h with ⟨rfl, rfl⟩ | ⟨g, off, cap, cur, rfl, hb, h1, h2, h3, h4⟩
  · exact Sl.nil _ _
  · refine ⟨_, _, rfl, h1, h3, .inr ⟨g, off, rfl, Nat.lt_of_lt_of_le (Array.getElem?_eq_some_iff.1 hb).1 hM, fun i hi => ?_⟩⟩
    have : ((cur.toList.drop off).take l.length)[i]? = (l.map (Value.int .i64))[i]? := by rw [h4]
    rw [List.getElem?_take, if_pos hi, List.getElem?_drop, List.getElem?_map, List.getElem?_eq_getElem hi] at this
    simp only [World.cell?, hb]
    rw [List.getElem?_eq_getElem hi]
    simpa using this
theorem Wo.out {X : Nat → Prop} {w w' : World} {v : Value} {l : List Int} (h : Wo w v l) (hO : Out X w w') (hx : ∀ g, v.ownBlock = some g → ¬ X g) : Wo w' v l := by
  rcases h with h2 | ⟨g, off, cap, cur, rfl, hb, r⟩
  · exact .inl h2
  · exact .inr ⟨g, off, cap, cur, rfl, (hO.block g (Array.getElem?_eq_some_iff.1 hb).1 (hx g rfl)).trans hb, r⟩
theorem Wo.lt {W : World} {v : Value} {l : List Int} (h : Wo W v l) {g : Nat} (hg : v.ownBlock = some g) : g < W.heap.size := by
  rcases h with ⟨rfl, _⟩ | ⟨g', off, cap, cur, rfl, hb, _⟩
  · simp [Value.ownBlock] at hg
  · simp [Value.ownBlock] at hg
    subst hg
    exact (Array.getElem?_eq_some_iff.1 hb).1
theorem Wo.not_at {W : World} {v : Value} {l : List Int} (h : Wo W v l) {R : Nat} {cs : Array Value} {t : TypeId} {z : Nat × Nat} (hR : W.heap[R]? = some (.cells cs t z)) (ht : t ≠ 3) : v.ownBlock ≠ some R := by
  rcases h with ⟨rfl, _⟩ | ⟨g', off, cap, cur, rfl, hb, _⟩
  · simp [Value.ownBlock]
  · intro e'
    obtain rfl : g' = R := by simpa [Value.ownBlock] using e'
    rw [hR] at hb
    simp at hb
    exact ht hb.2.1

/-- A slice s[k:]. -/
def cutV (a : Option Addr) (len c k : Nat) : Value := .slice (match a with | none => none | some ad => if c = k then some ad else some ⟨ad.block, ad.off + k, ad.spot⟩) (len - k) (c - k)
theorem Wo.cut {W : World} {a : Option Addr} {len c : Nat} {l : List Int} (h : Wo W (.slice a len c) l) (k : Nat) (hk : k ≤ l.length) : Wo W (cutV a len c k) (l.drop k) ∧ (∀ g, (cutV a len c k).ownBlock = some g → (Value.slice a len c).ownBlock = some g) := by
  rcases h with ⟨hv, rfl⟩ | ⟨g, off, cap, cur, hv, hb, h1, h2, h3, h4⟩
  · cases hv
    have : k = 0 := by simpa using hk
    subst this
    exact ⟨.inl ⟨rfl, rfl⟩, by simp [cutV, Value.ownBlock]⟩
  · cases hv
    refine ⟨.inr ?_, ?_⟩
    · by_cases hc : c = k
      · have hl : l.length = k := by omega
        have hd : l.drop k = [] := List.drop_eq_nil_of_le (by omega)
        refine ⟨g, off, c - k, cur, by simp [cutV, hc], hb, by simp; omega, by omega, by omega, by rw [hd]; simp⟩
      · refine ⟨g, off + k, c - k, cur, by simp [cutV, hc], hb, by simp; omega, by omega, by omega, ?_⟩
        rw [← List.drop_drop, List.length_drop, List.map_drop, ← h4, List.drop_take]
    · intro g' hg'
      by_cases hc : c = k <;> simpa [cutV, hc, Value.ownBlock] using hg'

theorem run_append_wo (ty : TypeId) (w : World) (v : Value) (l : List Int) (x : Int) (b c : Nat) (hv : Wo w v l) (hx : w.cell? ⟨b, 0, none⟩ = some (.int .i64 x)) (hlen : l.length + 1 ≤ 1099511627776) :
    ∃ v' w', (Builtin.append_ #[22, 22] ty #[v, .slice (some ⟨b, 0, none⟩) 1 c]).run Try.prog w = .ok v' w' ∧ Wo w' v' (l ++ [x]) ∧ w.grownBy w' v.ownBlock ∧ (v'.ownBlock = v.ownBlock ∨ v'.ownBlock = some w.heap.size) := by
  obtain ⟨i0, hi, hz0, hz1, hz2⟩ := info_parts info
  have hnews : ∀ j u, ([x].map (Value.int .i64))[j]? = some u → w.cell? ((⟨b, 0, none⟩ : Addr).add j) = some u := by
    intro j u hu
    rw [Addr.add_lit]
    cases j with
    | zero => simp at hu; subst hu; simpa using hx
    | succ j => simp at hu
  have h1 : ∀ u ∈ [x].map (Value.int .i64), u.oneCell' = true := by intro u hu; simp at hu; subst hu; rfl
  rcases hv with ⟨rfl, rfl⟩ | ⟨g, off, cap, cur, rfl, hb, hc1, hc2, hc3, hc4⟩
  · obtain ⟨v', w', r1, r2, r3, _, r5⟩ := run_append_own_at (P := Try.prog) w 0 22 ty 3 i0 (.int .i64 0) 1 8 Try.underlying22 hi hz0 hz1 hz2 rfl (by decide) (.slice none 0 0) 0 [] (World.ownsRow_nil _ _ _ _) ⟨b, 0, none⟩ 1 c ([x].map (Value.int .i64)) (by simp) hnews h1 (by unfold maxLen; omega) (by omega) (Nat.zero_le _)
    exact ⟨v', w', r1, Wo.of (N := 0) (l := [x]) r2, r3, r5⟩
  · by_cases hroom : l.length + 1 ≤ cap
    · have hf := run_firstCells_some (P := Try.prog) w i0.size 1 ⟨b, 0, none⟩ 1 c ([x].map (Value.int .i64)) (by rw [hz1]; simp) hnews
      have hst := run_storeCells_at Try.prog g (off + l.length * i0.size) 3 ([x].map (Value.int .i64)) 0 cur w hb (by rw [hz1]; simp; omega) h1
      simp only [Nat.add_zero] at hst
      have hr : (Builtin.append_ #[22, 22] ty #[.slice (some ⟨g, off, none⟩) l.length cap, .slice (some ⟨b, 0, none⟩) 1 c]).run Try.prog w = .ok (.slice (some ⟨g, off, none⟩) (l.length + 1) cap) (w.setRow g (cur.toList.take (off + l.length * i0.size) ++ [x].map (Value.int .i64) ++ cur.toList.drop (off + l.length * i0.size + ([x].map (Value.int .i64)).length)).toArray) := by
        simp [Builtin.append_, run_underlying Try.underlying22, sizeOf, typeInfo, hi, Builtin.lenOf, hroom] at hf hst ⊢
        simp [hf, Addr.add_lit, hst]
      rw [hz1] at hr
      simp only [Nat.mul_one] at hr
      refine ⟨_, _, hr, .inr ⟨g, off, cap, _, by simp, setRow_heap w g cur _ 3 _ hb, by simpa using hroom, ?_, hc3, ?_⟩, ⟨rfl, rfl, rfl, by simp, fun k _ hk => setRow_other w g k _ (fun e => hk (by simp [Value.ownBlock, e]))⟩, .inl rfl⟩
      · simp only [List.size_toArray, List.length_append, List.length_take, List.length_drop, Array.length_toList, List.length_map, List.length_singleton]
        omega
      · have e0 : cur.toList.take (off + l.length) = cur.toList.take off ++ l.map (Value.int .i64) := by rw [List.take_add, hc4]
        have hlo : (cur.toList.take off).length = off := by rw [List.length_take, Array.length_toList]; omega
        rw [e0]
        simp only [List.append_assoc]
        rw [List.drop_left' hlo, ← List.append_assoc]
        exact List.take_left' (by simp) |>.trans (by simp)
    · have holds : ∀ j u, (l.map (Value.int .i64))[j]? = some u → w.cell? ((⟨g, off, none⟩ : Addr).add j) = some u := by
        intro j u hu
        rw [← hc4, List.getElem?_take] at hu
        split at hu
        · rw [List.getElem?_drop] at hu
          rw [Addr.add_lit]
          simp only [World.cell?, hb]
          simpa using hu
        · cases hu
      have hr := run_append_grow (P := Try.prog) w 22 ty 3 i0 (.int .i64 0) Try.underlying22 hi hz0 ⟨g, off, none⟩ l.length cap (l.map (Value.int .i64)) (by rw [hz1]; simp) holds ⟨b, 0, none⟩ 1 c ([x].map (Value.int .i64)) (by rw [hz1]; simp) hnews (by omega) (by omega) (growslice_fits (by omega) (by rw [hz2]; omega))
      have hge := grownCap_ge w (l.length + 1) cap 3
      have hcm : grownCap w (l.length + 1) cap 3 ≤ maxLen := grownCap_le_maxLen w (l.length + 1) cap 3 (by unfold maxLen; omega)
      refine ⟨_, _, hr, .inr ⟨w.heap.size, 0, _, _, by simp, heap_alloc_new w.drew _, by simpa using hge, ?_, hcm, ?_⟩, ⟨rfl, rfl, rfl, by simp, fun k hk _ => heap_alloc_old w.drew _ hk⟩, .inr rfl⟩
      · simp only [Array.size_append, List.size_toArray, size_zeroCells, List.length_map, List.length_singleton]
        have : (Value.int IntKind.i64 0).cells.size = 1 := rfl
        rw [this]
        omega
      · simp only [Array.toList_append, List.append_assoc, List.drop_zero]
        rw [← List.append_assoc]
        have e2 : (l ++ [x]).map (Value.int .i64) = l.map (Value.int .i64) ++ [x].map (Value.int .i64) := by simp
        rw [e2]
        have e3 : (l ++ [x]).length = (l.map (Value.int .i64) ++ [x].map (Value.int .i64)).length := by simp
        rw [e3]
        exact List.take_left

/-- An append of one onto such a row, as a law of the walk. -/
theorem wpList_append_wo {ops : Array Oper} {rest : List Oper} {o : Oper} {a : Act} {Q : Exit → Act → World → Prop} {w : World} (hgd : o.guard = none) (s x : Operand)
    (ho : o.op = .call { callee := .builtin .append, args := #[s, x], argTypes := #[22, 22] })
    (v : Value) (l : List Int) (y : Int) (b c : Nat) (hs : a.eval s = v) (hv : Wo w v l) (hx : a.eval x = .slice (some ⟨b, 0, none⟩) 1 c) (hc : w.cell? ⟨b, 0, none⟩ = some (.int .i64 y)) (hlen : l.length + 1 ≤ 1099511627776)
    (h : ∀ v' w', Wo w' v' (l ++ [y]) → w.grownBy w' v.ownBlock → (v'.ownBlock = v.ownBlock ∨ v'.ownBlock = some w.heap.size) → wpList Try.prog ops Q rest (a.put o.dst v') w') :
    wpList Try.prog ops Q (o :: rest) a w := by
  refine wpList_plain hgd fun K hK => ?_
  obtain ⟨v', w', hr, h2, h3, h4⟩ := run_append_wo o.type w v l y b c hv hc hlen
  unfold Oper.wp execOp
  simp only [ho, resolve, invoke, builtin, Sem.run_bind, Sem.run_pure, Result.andThen_ok, List.map_toArray, List.map_cons, List.map_nil, hs, hx, hr]
  exact hK _ _ (h v' w' h2 h3 h4)


def rrow (p : PP) (v : Value) : Array Value := #[.int .i64 p.m, .int .i64 p.n, .int .i64 p.st, .bool p.pa, v, .int .i64 (p.rm : Int), .int .i64 p.sn]
/-- Block c holds the document's progress. -/
structure RP (N : Nat) (S : Nat → Prop) (w : World) (c : Nat) (p : PP) : Prop where
  at_ : ∃ v, w.heap[c]? = some (.cells (rrow p v) 51 (0, 0)) ∧ Wo w v p.W ∧ ∀ g, v.ownBlock = some g → S g
  Sc : S c
  inn : ∀ i, S i → i < w.heap.size
  fr : ∀ i, S i → N ≤ i
structure RTh (N : Nat) (S : Nat → Prop) (w w' : World) (c : Nat) (p : PP) : Prop where
  q : RP N (grew S w w') w' c p
  out : Out S w w'
theorem RP.out {N : Nat} {S X : Nat → Prop} {w w' : World} {c : Nat} {p : PP} (h : RP N S w c p) (hO : Out X w w') (hx : ∀ i, S i → ¬ X i) : RP N S w' c p := by
  obtain ⟨v, hb, hq, hs⟩ := h.at_
  exact ⟨⟨v, (hO.block c (h.inn _ h.Sc) (hx _ h.Sc)).trans hb, hq.out hO (fun g hg => hx g (hs g hg)), hs⟩, h.Sc, fun i hi => Nat.lt_of_lt_of_le (h.inn i hi) hO.size, h.fr⟩
theorem RP.mono {N : Nat} {S S' : Nat → Prop} {w : World} {c : Nat} {p : PP} (h : RP N S w c p) (hS : ∀ i, S i → S' i) (hi : ∀ i, S' i → i < w.heap.size) (hf : ∀ i, S' i → N ≤ i) : RP N S' w c p := by
  obtain ⟨v, hb, hq, hs⟩ := h.at_
  exact ⟨⟨v, hb, hq, fun g hg => hS g (hs g hg)⟩, hS _ h.Sc, hi, hf⟩
theorem RP.to {N : Nat} {S : Nat → Prop} {w w' : World} {c : Nat} {p : PP} (h : RP N S w' c p) (hO : Out S w w') (hN : N ≤ w.heap.size) : RTh N S w w' c p :=
  ⟨h.mono (fun _ hi => .inl hi) (fun i hi => hi.elim (h.inn i) (fun h2 => h2.2)) (fun i hi => hi.elim (h.fr i) (fun h2 => by omega)), hO⟩
theorem RP.drew {N : Nat} {S : Nat → Prop} {w : World} {c : Nat} {p : PP} (h : RP N S w c p) (n : Nat) : RP N S (w.drewN n) c p := h.out (X := fun _ => False) (Out.drew w n) (fun _ _ hf => hf)
theorem RTh.step {N : Nat} {S : Nat → Prop} {w w1 w2 : World} {b : Nat} {p p' : PP} (h1 : RTh N S w w1 b p) (h : RTh N (grew S w w1) w1 w2 b p') (hN : N ≤ w.heap.size) : RTh N S w w2 b p' := by
  have hs := h1.out.size
  have hs2 := h.out.size
  refine ⟨h.q.mono ?_ (fun i hi => hi.elim (fun h2 => h.q.inn i (.inl (.inl h2))) (fun h2 => h2.2)) (fun i hi => hi.elim (fun h2 => h.q.fr i (.inl (.inl h2))) (fun h2 => by omega)), h1.out.step h.out⟩
  rintro i ((hi | hi) | hi)
  · exact .inl hi
  · exact .inr ⟨hi.1, by omega⟩
  · exact .inr ⟨by omega, hi.2⟩
theorem RTh.of {N : Nat} {S : Nat → Prop} {w w1 w2 : World} {b : Nat} {p : PP} (hO : Out S w w1) (h : RTh N S w1 w2 b p) (hN : N ≤ w.heap.size) : RTh N S w w2 b p := by
  have hs := hO.size
  have hs2 := h.out.size
  exact ⟨h.q.mono (fun i hi => hi.imp id (fun h2 => ⟨by omega, h2.2⟩)) (fun i hi => hi.elim (fun h2 => h.q.inn i (.inl h2)) (fun h2 => h2.2)) (fun i hi => hi.elim (fun h2 => h.q.fr i (.inl h2)) (fun h2 => by omega)), hO.trans h.out (fun i hi _ => hi)⟩

theorem RP.cells {N : Nat} {S : Nat → Prop} {w : World} {c : Nat} {p : PP} (h : RP N S w c p) : ∃ a k, ((w.cell? ⟨c, 0, none⟩ = some (.int .i64 p.m) ∧ w.cell? ⟨c, 1, none⟩ = some (.int .i64 p.n) ∧ w.cell? ⟨c, 2, none⟩ = some (.int .i64 p.st) ∧ w.cell? ⟨c, 3, none⟩ = some (.bool p.pa) ∧ w.cell? ⟨c, 4, none⟩ = some (.slice a p.W.length k) ∧ w.cell? ⟨c, 5, none⟩ = some (.int .i64 (p.rm : Int)) ∧ w.cell? ⟨c, 6, none⟩ = some (.int .i64 p.sn)) ∧ ∀ o, w.frozen? ⟨c, o, none⟩ = false) ∧ w.heap[c]? = some (.cells (rrow p (.slice a p.W.length k)) 51 (0, 0)) ∧ Wo w (.slice a p.W.length k) p.W ∧ ∀ g, (Value.slice a p.W.length k).ownBlock = some g → S g := by
  obtain ⟨v, hb, hq, hs⟩ := h.at_
  obtain ⟨a, k, rfl, -, -⟩ := hq.shape
  refine ⟨a, k, ⟨⟨?_, ?_, ?_, ?_, ?_, ?_, ?_⟩, fun o => ?_⟩, hb, hq, hs⟩
  all_goals simp [World.cell?, World.frozen?, hb, rrow]

/-- The struct and perhaps its row have turned. -/
theorem RP.turn {N : Nat} {S : Nat → Prop} {w w1 : World} {c : Nat} {p p' : PP} {v' : Value} (h : RP N S w c p) (hN : N ≤ w.heap.size) (hO : Out S w w1) (hb1 : w1.heap[c]? = some (.cells (rrow p' v') 51 (0, 0))) (hW : Wo w1 v' p'.W) (hS : ∀ g, v'.ownBlock = some g → S g ∨ w.heap.size ≤ g) : RTh N S w w1 c p' := by
  refine ⟨⟨⟨v', hb1, hW, fun g hg => ?_⟩, .inl h.Sc, ?_, ?_⟩, hO⟩
  · rcases hS g hg with e | e
    · exact .inl e
    · exact .inr ⟨e, hW.lt hg⟩
  · rintro i (hi | hi)
    · exact Nat.lt_of_lt_of_le (h.inn i hi) hO.size
    · exact hi.2
  · rintro i (hi | hi)
    · exact h.fr i hi
    · omega
/-- Cells of the struct were written, the row stays. -/
theorem RP.set {N : Nat} {S : Nat → Prop} {w w1 : World} {c : Nat} {p p' : PP} {v : Value} (h : RP N S w c p) (hN : N ≤ w.heap.size) (hb : w.heap[c]? = some (.cells (rrow p v) 51 (0, 0))) (hq : Wo w v p.W) (hs : ∀ g, v.ownBlock = some g → S g) (hO : Out (fun i => i = c) w w1) (hb1 : w1.heap[c]? = some (.cells (rrow p' v) 51 (0, 0))) (hW : p'.W = p.W) : RTh N S w w1 c p' :=
  h.turn hN (hO.mono (by rintro i rfl; exact h.Sc)) hb1 (by rw [hW]; exact hq.out hO (fun g hg e => hq.not_at hb (by decide) (by rw [hg, e]))) (fun g hg => .inl (hs g hg))
/-- .. and the row is nil. -/
theorem RP.setN {N : Nat} {S : Nat → Prop} {w w1 : World} {c : Nat} {p p' : PP} (h : RP N S w c p) (hN : N ≤ w.heap.size) (hO : Out (fun i => i = c) w w1) (hb1 : w1.heap[c]? = some (.cells (rrow p' (.slice none 0 0)) 51 (0, 0))) (hW : p'.W = []) : RTh N S w w1 c p' :=
  h.turn hN (hO.mono (by rintro i rfl; exact h.Sc)) hb1 (by rw [hW]; exact Wo.nil _) (fun g hg => by simp [Value.ownBlock] at hg)

set_option maxRecDepth 100000 in
theorem rSnap_any {N : Nat} {S : Nat → Prop} {w : World} {c : Nat} {p : PP} (h : RP N S w c p) (hN : N ≤ w.heap.size) (x : Int) :
    Calls Try.prog 35 #[.pointer (some ⟨c, 0, none⟩), .int .i64 x] w fun e w' => e = .returned (.tuple #[]) ∧ RTh N S w w' c (p.snap x) := by
  obtain ⟨a, k, ⟨⟨c0, c1, c2, c3, c4, c5, c6⟩, cf⟩, hb, hq, hs⟩ := h.cells
  have HE : Hid (RTh N S w (((w.setCell ⟨c, 2, none⟩ (.int .i64 2)).setCell ⟨c, 4, none⟩ (.slice none 0 0)).setCell ⟨c, 6, none⟩ (.int .i64 x)) c (p.snap x)) :=
    h.setN hN (Out.put (Out.put (Out.put (Out.refl _ _) (by rfl)) (by rfl)) (by rfl)) (by simpa [rrow, PP.snap] using heap_set (heap_set (heap_set hb 2 (.int .i64 2)) 4 (.slice none 0 0)) 6 (.int .i64 x)) rfl
  clear h hb hq hs
  generalize p.W.length = L at *
  go_enter Try.func35, Try.ntmps35
  go_wp2
  go_returns
  exact ⟨rfl, HE.out⟩

set_option maxRecDepth 100000 in
theorem rMay_any {N : Nat} {S : Nat → Prop} {w : World} {c : Nat} {p : PP} (h : RP N S w c p) (ho : p.Ok) (hl : p.W.length ≤ p.rm) :
    Calls Try.prog 40 #[.pointer (some ⟨c, 0, none⟩)] w fun e w' => e = .returned (.bool p.may) ∧ ∃ n, w' = w.drewN n := by
  obtain ⟨a, k, ⟨⟨c0, c1, c2, c3, c4, c5, c6⟩, cf⟩, hb, hq, hs⟩ := h.cells
  have hst : p.st = 0 ∨ p.st = 1 ∨ p.st = 2 := by have := ho.s0; have := ho.s2; omega
  clear h hb hq hs
  rcases hst with e | e | e
  · have hm : p.may = !p.pa := by simp [PP.may, e]
    rw [hm]
    rw [e] at c2
    generalize p.W.length = L at *
    go_enter Try.func40, Try.ntmps40
    go_wp2
    go_ret
    exact ⟨rfl, 0, rfl⟩
  · have hm : p.may = decide (p.W.length < p.rm) := by
      by_cases hq : p.W.length = p.rm
      · simp [PP.may, e, hq]
      · have hq2 : p.W.length < p.rm := by omega
        simp [PP.may, e, hq, hq2]
    rw [hm]
    rw [e] at c2
    by_cases hlt : p.W.length < p.rm
    · have hd : decide (p.W.length < p.rm) = true := by simpa using hlt
      rw [hd]
      generalize p.W.length = L at *
      go_enter Try.func40, Try.ntmps40
      go_wp2
      go_quiet (fail)
      go_wp2
      go_ret
      exact ⟨rfl, _, rfl⟩
    · have hd : decide (p.W.length < p.rm) = false := by simpa using hlt
      rw [hd]
      generalize p.W.length = L at *
      go_enter Try.func40, Try.ntmps40
      go_wp2
      go_quiet (fail)
      go_wp2
      go_ret
      exact ⟨rfl, _, rfl⟩
  · have hm : p.may = false := by simp [PP.may, e]
    rw [hm]
    rw [e] at c2
    generalize p.W.length = L at *
    go_enter Try.func40, Try.ntmps40
    go_wp2
    go_quiet (fail)
    go_wp2
    go_ret
    exact ⟨rfl, _, rfl⟩

set_option maxRecDepth 100000 in
theorem rRej_any {N : Nat} {S : Nat → Prop} {w : World} {c : Nat} {p : PP} (h : RP N S w c p) (hN : N ≤ w.heap.size) (ho : p.Ok) (x y : Int) (hy0 : 0 ≤ y) (hy1 : y ≤ 4611686018427387904) :
    Calls Try.prog 31 #[.pointer (some ⟨c, 0, none⟩), .int .i64 x, .int .i64 y] w fun e w' => e = .returned (.bool (p.rejY x)) ∧ RTh N S w w' c (p.rej x y) := by
  obtain ⟨a, k, ⟨⟨c0, c1, c2, c3, c4, c5, c6⟩, cf⟩, hb, hq, hs⟩ := h.cells
  have hst : p.st = 0 ∨ p.st = 1 ∨ p.st = 2 := by have := ho.s0; have := ho.s2; omega
  have hw1 : IntKind.i64.wrap (p.n - 1) = p.n - 1 := by rw [IntKind.wrap_i64]; have := ho.m0; have := ho.mn; have := ho.n1; omega
  have hw2 : IntKind.i64.wrap (p.m + 1) = p.m + 1 := by rw [IntKind.wrap_i64]; have := ho.m0; have := ho.mn; have := ho.n1; omega
  have hw3 : IntKind.i64.wrap (y + 1) = y + 1 := by rw [IntKind.wrap_i64]; omega
  have HS : Hid (RTh N S w w c p) := h.to (Out.refl _ _) hN
  rcases hst with e | e | e
  · have hy : p.rejY x = decide (x = p.n - 1) := by simp [PP.rejY, e]
    rw [hy]
    have hr : p.rej x y = p.back x y := by simp [PP.rej, e]
    rw [hr]
    by_cases hx : x = p.n - 1
    · have hd : decide (x = p.n - 1) = true := by simpa using hx
      have hnq : (x != p.n - 1) = false := by simpa using hx
      have HE : Hid (RTh N S w ((w.setCell ⟨c, 1, none⟩ (.int .i64 (max (min x (y + 1)) (p.m + 1)))).setCell ⟨c, 3, none⟩ (.bool false)) c (p.back x y)) := by
        show RTh _ _ _ _ _ _
        rw [PP.back, if_pos hx, Int.max_comm (p.m + 1)]
        exact h.set (p' := { p with n := max (min x (y + 1)) (p.m + 1), pa := false }) hN hb hq hs (Out.put (Out.put (Out.refl _ _) (by rfl)) (by rfl)) (by simpa [rrow] using heap_set (heap_set hb 1 (.int .i64 (max (min x (y + 1)) (p.m + 1)))) 3 (.bool false)) rfl
      rw [hd]
      rw [e] at c2
      clear h hb hq hs ho hy0 hy1 hx hd hy hr
      generalize p.W.length = L at *
      go_enter Try.func31, Try.ntmps31
      go_wp2
      go_ret
      exact ⟨rfl, HE.out⟩
    · have hd : decide (x = p.n - 1) = false := by simpa using hx
      have hnq : (x != p.n - 1) = true := by simpa using hx
      have HE : Hid (RTh N S w w c (p.back x y)) := by show RTh _ _ _ _ _ _; rw [PP.back, if_neg hx]; exact HS.out
      rw [hd]
      rw [e] at c2
      clear h hb hq hs ho hy0 hy1 hx hd hy hr
      generalize p.W.length = L at *
      go_enter Try.func31, Try.ntmps31
      go_wp2
      go_ret
      exact ⟨rfl, HE.out⟩
  · have hy : p.rejY x = decide (p.m < x) := by simp [PP.rejY, e]
    rw [hy]
    have hr : p.rej x y = if p.m < x then p.re 0 else p := by simp [PP.rej, e]
    rw [hr]
    by_cases hx : p.m < x
    · have hd : decide (p.m < x) = true := by simpa using hx
      have hle : ¬ x ≤ p.m := by omega
      have HE : Hid (RTh N S w ((((w.setCell ⟨c, 2, none⟩ (.int .i64 0)).setCell ⟨c, 3, none⟩ (.bool false)).setCell ⟨c, 4, none⟩ (.slice none 0 0)).setCell ⟨c, 1, none⟩ (.int .i64 (p.m + 1))) c (p.re 0)) :=
        h.setN hN (Out.put (Out.put (Out.put (Out.put (Out.refl _ _) (by rfl)) (by rfl)) (by rfl)) (by rfl)) (by simpa [rrow, PP.re] using heap_set (heap_set (heap_set (heap_set hb 2 (.int .i64 0)) 3 (.bool false)) 4 (.slice none 0 0)) 1 (.int .i64 (p.m + 1))) rfl
      rw [hd, if_pos hx]
      rw [e] at c2
      clear h hb hq hs ho hy0 hy1 hd hy hr
      generalize p.W.length = L at *
      go_enter Try.func31, Try.ntmps31
      go_wp2
      go_ret
      exact ⟨rfl, HE.out⟩
    · have hd : decide (p.m < x) = false := by simpa using hx
      have hle : x ≤ p.m := by omega
      rw [hd, if_neg hx]
      rw [e] at c2
      clear h hb hq hs ho hy0 hy1 hd hy hr
      generalize p.W.length = L at *
      go_enter Try.func31, Try.ntmps31
      go_wp2
      go_ret
      exact ⟨rfl, HS.out⟩
  · have hy : p.rejY x = false := by simp [PP.rejY, e]
    have hr : p.rej x y = p := by simp [PP.rej, e]
    rw [hy, hr]
    rw [e] at c2
    clear h hb hq hs ho hy0 hy1 hy hr
    generalize p.W.length = L at *
    go_enter Try.func31, Try.ntmps31
    go_wp2
    go_ret
    exact ⟨rfl, HS.out⟩

theorem rNewP_any (N R : Nat) (next : Int) (w : World) (h1 : 1 ≤ R) (h2 : R ≤ 64) (hN : N ≤ w.heap.size) :
    Calls Try.prog 24 #[.int .i64 next, .int .i64 (R : Int)] w fun e w' => e = .returned (.pointer (some ⟨w.heap.size, 0, none⟩)) ∧ RP N (fun i => i = w.heap.size) w' w.heap.size (pNew next R) ∧ Below w.heap.size w w' := by
  have hn1 : ¬ (R : Int) < 1 := by omega
  have hn7 : ¬ (64 : Int) < (R : Int) := by omega
  have HE : Hid (RP N (fun i => i = w.heap.size) (w.alloc (.cells #[.int .i64 0, .int .i64 (max next 1), .int .i64 0, .bool false, .slice none 0 0, .int .i64 (R : Int), .int .i64 0] 51)) w.heap.size (pNew next R)) :=
    ⟨⟨.slice none 0 0, by unfold pNew rrow; rw [Int.max_comm 1 next]; exact heap_alloc_new w _, Wo.nil _, by simp [Value.ownBlock]⟩, rfl, by rintro i rfl; simp, by rintro i rfl; exact hN⟩
  have HB : Hid (∀ cs, Below w.heap.size w (w.alloc (.cells cs 51))) := fun _ => (Below.refl _ w).alloc (Nat.le_refl _) _
  clear h1 h2
  go_enter Try.func24, Try.ntmps24
  go_wp2
  go_ret
  exact ⟨rfl, HE.out, HB.out _⟩
theorem rNewP_none (n next : Int) (w : World) (h : ¬ (1 ≤ n ∧ n ≤ 64)) :
    Calls Try.prog 24 #[.int .i64 next, .int .i64 n] w fun e w' => e = .returned (.pointer none) ∧ w' = w := by
  by_cases h1 : n < 1
  · clear h
    go_enter Try.func24, Try.ntmps24
    go_wp2
    go_ret
    exact ⟨rfl, rfl⟩
  · have h2 : 64 < n := by omega
    clear h
    go_enter Try.func24, Try.ntmps24
    go_wp2
    go_ret
    exact ⟨rfl, rfl⟩
end Go.Proofs.Ytdgaimiggejleaa
