/-
  What may turn; rows that were made.
-/
import Derived.Test.YtgonbicpehjogaaGreatDoorBas
import Derived.Maps.RangeWalk
import Derived.Maps.OwnSet
namespace Go.Proofs.YtgonbicpehjogaaGreatDoor
open Go.RowKit

/-! ### what may turn -/
/-- Blocks outside X are as they were. -/
structure Out (X : Nat → Prop) (w w' : World) : Prop where
  os : w'.os = w.os
  tape : w'.tape = w.tape
  output : w'.output = w.output
  size : w.heap.size ≤ w'.heap.size
  block : ∀ i, i < w.heap.size → ¬ X i → w'.heap[i]? = w.heap[i]?

/-- The blocks of X, and those that are new. -/
def grew (X : Nat → Prop) (w w' : World) : Nat → Prop := fun i => X i ∨ (w.heap.size ≤ i ∧ i < w'.heap.size)

theorem Out.refl (X : Nat → Prop) (w : World) : Out X w w := ⟨rfl, rfl, rfl, Nat.le_refl _, fun _ _ _ => rfl⟩
theorem Out.trans {X Y : Nat → Prop} {a b c : World} (h : Out X a b) (k : Out Y b c) (hY : ∀ i, Y i → i < a.heap.size → X i) : Out X a c :=
  ⟨k.os.trans h.os, k.tape.trans h.tape, k.output.trans h.output, Nat.le_trans h.size k.size, fun i hi hx => (k.block i (Nat.lt_of_lt_of_le hi h.size) (fun hy => hx (hY i hy hi))).trans (h.block i hi hx)⟩
theorem Out.mono {X Y : Nat → Prop} {a b : World} (h : Out X a b) (hX : ∀ i, X i → Y i) : Out Y a b := ⟨h.os, h.tape, h.output, h.size, fun i hi hy => h.block i hi (fun hx => hy (hX i hx))⟩
theorem Out.grown {X : Nat → Prop} {a b : World} {row : Option Nat} (h : a.grownBy b row) (hr : ∀ j, row = some j → X j) : Out X a b :=
  ⟨h.os, h.tape, h.output, h.size, fun i hi hx => h.block i hi (fun e => hx (hr i e.symm))⟩
theorem Out.of_below {X : Nat → Prop} {a b : World} (h : Below a.heap.size a b) : Out X a b := ⟨h.os, h.tape, h.output, h.size, fun i hi _ => h.block i hi⟩
theorem Out.below {X : Nat → Prop} {a b : World} {N : Nat} (h : Out X a b) (hN : N ≤ a.heap.size) (hX : ∀ i, X i → N ≤ i) : Below N a b :=
  ⟨h.os, h.tape, h.output, h.size, fun i hi => h.block i (by omega) (fun hx => by have := hX i hx; omega)⟩
theorem Out.set {X : Nat → Prop} {w : World} {b o : Nat} {u : Value} (hb : X b) : Out X w (w.setCell ⟨b, o, none⟩ u) :=
  ⟨rfl, rfl, rfl, by simp [World.setCell], fun i _ hx => Below.heap_setCell _ _ _ _ (fun e => hx (by rw [e]; exact hb))⟩
theorem Out.step {X : Nat → Prop} {a b c : World} (h : Out X a b) (k : Out (grew X a b) b c) : Out X a c :=
  h.trans k (fun i hi hl => hi.elim id (fun h2 => absurd h2.1 (by omega)))
theorem grew_refl {X : Nat → Prop} {w : World} {i : Nat} (h : grew X w w i) : X i := h.elim id (fun h2 => absurd h2.2 (by omega))
theorem grew_mono {X : Nat → Prop} {w a b : World} (h : a.heap.size ≤ b.heap.size) {i : Nat} (hi : grew X w a i) : grew X w b i := hi.imp id (fun h2 => ⟨h2.1, by omega⟩)

theorem heap_set {W : World} {B : Nat} {cs : Array Value} {t : TypeId} {z : Nat × Nat} (h : W.heap[B]? = some (.cells cs t z)) (o : Nat) (u : Value) : (W.setCell ⟨B, o, none⟩ u).heap[B]? = some (.cells (cs.setIfInBounds o u) t z) := by
  simp only [World.setCell, Array.getElem?_modify, if_pos]
  rw [h]; rfl
theorem size_set (W : World) (a : Addr) (u : Value) : (W.setCell a u).heap.size = W.heap.size := by simp [World.setCell]
theorem Out.put {X : Nat → Prop} {w a : World} {b o : Nat} {u : Value} (h : Out X w a) (hb : X b) : Out X w (a.setCell ⟨b, o, none⟩ u) := h.trans (Out.set (X := X) hb) (fun _ hi _ => hi)
theorem Out.drew {X : Nat → Prop} (w : World) (n : Nat) : Out X w (w.drewN n) := ⟨rfl, rfl, rfl, Nat.le_refl _, fun _ _ _ => rfl⟩
theorem Out.alloc {X : Nat → Prop} {w a : World} (h : Out X w a) (o : Obj) : Out X w (a.alloc o) := h.trans (Y := fun _ => False) (Out.of_below ((Below.refl _ _).alloc (Nat.le_refl _) _)) (fun _ h _ => h.elim)



/-- A slice type and its element's type, size and bytes. -/
structure Ty (σ τ : TypeId) (z : Value) (sz bt : Nat) : Prop where
  und : Tryz.prog.underlying σ = some (.slice τ)
  inf : (Tryz.prog.info? τ).map (fun i => (i.zero, i.size, i.bytes)) = some (some z, sz, bt)
  zs : z.cells.size = sz
  pos : 0 < sz
  few : bt ≤ 1000
theorem tyA : Ty 24 31 (.agg #[.int .i64 0, .int .i64 0, .slice none 0 0, .int .i64 0, .int .i64 0, .int .i64 0, .int .i64 0, .string ⟨#[]⟩, .string ⟨#[]⟩, .string ⟨#[]⟩]) 10 120 := ⟨Tryz.underlying24, by kernel_rfl, rfl, by decide, by decide⟩
theorem tyL : Ty 22 24 (.slice none 0 0) 1 24 := ⟨Tryz.underlying22, by kernel_rfl, rfl, by decide, by decide⟩

theorem run_app {σ τ : TypeId} {z : Value} {sz bt : Nat} (hT : Ty σ τ z sz bt) (ty : TypeId) (w : World) (N : Nat) (v : Value) (n : Nat) (xs : List Value) (hv : w.ownsRow N τ sz v n xs) (ad : Addr) (m c : Nat) (news : List Value) (hl : news.length = m * sz)
    (hn : ∀ j u, news[j]? = some u → w.cell? (ad.add j) = some u) (h1 : ∀ u ∈ news, u.oneCell' = true) (hlen : n + m ≤ 1000000000) (hN : N ≤ w.heap.size) :
    ∃ v' w', (Builtin.append_ #[σ, σ] ty #[v, .slice (some ad) m c]).run Tryz.prog w = .ok v' w' ∧ w'.ownsRow N τ sz v' (n + m) (xs ++ news) ∧ w.grownBy w' v.ownBlock ∧ (v'.ownBlock = v.ownBlock ∨ v'.ownBlock = some w.heap.size) := by
  obtain ⟨i0, hi, hz0, hz1, hz2⟩ := info_parts hT.inf
  have hbt : (n + m) * bt ≤ 140737488355328 := Nat.le_trans (Nat.mul_le_mul hlen hT.few) (by decide)
  obtain ⟨v', w', r1, r2, r3, _, r5⟩ := run_append_own_at (P := Tryz.prog) w N σ ty τ i0 z sz bt hT.und hi hz0 hz1 hz2 hT.zs hT.pos v n xs hv ad m c news hl hn h1 (by unfold maxLen; omega) hbt hN
  exact ⟨v', w', r1, r2, r3, r5⟩

theorem wpList_app {σ τ : TypeId} {z : Value} {sz bt : Nat} (hT : Ty σ τ z sz bt) {ops : Array Oper} {rest : List Oper} {o : Oper} {a : Act} {Q : Exit → Act → World → Prop} {w : World} (hgd : o.guard = none) (s x : Operand)
    (ho : o.op = .call { callee := .builtin .append, args := #[s, x], argTypes := #[σ, σ] })
    (N : Nat) (v : Value) (n : Nat) (xs : List Value) (ad : Addr) (m c : Nat) (news : List Value) (hs : a.eval s = v) (hv : w.ownsRow N τ sz v n xs) (hx : a.eval x = .slice (some ad) m c) (hl : news.length = m * sz)
    (hn : ∀ j u, news[j]? = some u → w.cell? (ad.add j) = some u) (h1 : ∀ u ∈ news, u.oneCell' = true) (hlen : n + m ≤ 1000000000) (hN : N ≤ w.heap.size)
    (h : ∀ v' w', w'.ownsRow N τ sz v' (n + m) (xs ++ news) → w.grownBy w' v.ownBlock → (v'.ownBlock = v.ownBlock ∨ v'.ownBlock = some w.heap.size) → wpList Tryz.prog ops Q rest (a.put o.dst v') w') :
    wpList Tryz.prog ops Q (o :: rest) a w := by
  refine wpList_plain hgd fun K hK => ?_
  obtain ⟨v', w', hr, h2, h3, h4⟩ := run_app hT o.type w N v n xs hv ad m c news hl hn h1 hlen hN
  unfold Oper.wp execOp
  simp only [ho, resolve, invoke, builtin, Sem.run_bind, Sem.run_pure, Result.andThen_ok, List.map_toArray, List.map_cons, List.map_nil, hs, hx, hr]
  exact hK _ _ (h v' w' h2 h3 h4)

theorem step_app {σ τ : TypeId} {z : Value} {sz bt : Nat} (hT : Ty σ τ z sz bt) {ops : Array Oper} {o : Oper} {a : Act} {w : World} {K : Act → World → Prop} {Q : Exit → Act → World → Prop} {E : Prop}
    (hgd : o.guard = none) (s x : Operand) (hop : o.op = Op.call { callee := Callee.builtin Builtin.append, args := #[s, x], argTypes := #[σ, σ] })
    (N : Nat) (v : Value) (n : Nat) (xs : List Value) (ad : Addr) (m c : Nat) (news : List Value) (hs : a.eval s = v) (hv : w.ownsRow N τ sz v n xs) (hx : a.eval x = .slice (some ad) m c) (hl : news.length = m * sz)
    (hn : ∀ j u, news[j]? = some u → w.cell? (ad.add j) = some u) (h1 : ∀ u ∈ news, u.oneCell' = true) (hlen : n + m ≤ 1000000000) (hN : N ≤ w.heap.size)
    (h : ∀ v' w', w'.ownsRow N τ sz v' (n + m) (xs ++ news) → w.grownBy w' v.ownBlock → (v'.ownBlock = v.ownBlock ∨ v'.ownBlock = some w.heap.size) → K (a.put o.dst v') w') :
    if Region.wanted o (yielded ops a.tmps) = true then Oper.wp Tryz.prog o a w K Q else E := by
  have hw : Region.wanted o (yielded ops a.tmps) = true := by simp [Region.wanted, hgd]
  rw [if_pos hw]
  obtain ⟨v', w', hr, h2, h3, h4⟩ := run_app hT o.type w N v n xs hv ad m c news hl hn h1 hlen hN
  unfold Oper.wp execOp
  simp only [hop, resolve, invoke, builtin, Sem.run_bind, Sem.run_pure, Result.andThen_ok, List.map_toArray, List.map_cons, List.map_nil, hs, hx, hr]
  exact h v' w' h2 h3 h4

/-- Cells of a new block. -/
theorem news_at (w : World) (cs : Array Value) (τ : TypeId) : ∀ j u, cs.toList[j]? = some u → (w.alloc (.cells cs τ)).cell? ((⟨w.heap.size, 0, none⟩ : Addr).add j) = some u := by
  intro j u hj
  rw [Addr.add_lit]
  have hh : (w.alloc (.cells cs τ)).heap[w.heap.size]? = some (.cells cs τ) := heap_alloc_new w _
  simp only [World.cell?, hh, Nat.zero_add]
  simpa using hj

section
variable {N : Nat} {τ : TypeId} {sz : Nat} {w w' : World} {v : Value} {n c gg : Nat} {a : Option Addr} {xs : List Value}
theorem row_shape (h : w.ownsRow N τ sz v n xs) : ∃ a c, v = .slice a n c ∧ n ≤ c ∧ c ≤ maxLen := by
  rcases h.2 with ⟨rfl, h2⟩ | ⟨g, cap, cur, rfl, _, _, h3, h4, _⟩
  · exact ⟨none, 0, by rw [h2], by omega, by unfold maxLen; omega⟩
  · exact ⟨_, _, rfl, h3, h4⟩
theorem row_out {X : Nat → Prop} (h : w.ownsRow N τ sz v n xs) (hO : Out X w w') (hx : ∀ g, v.ownBlock = some g → ¬ X g) : w'.ownsRow N τ sz v n xs := by
  refine ⟨h.1, ?_⟩
  rcases h.2 with h2 | ⟨g, cap, cur, rfl, hg, hb, r⟩
  · exact .inl h2
  · exact .inr ⟨g, cap, cur, rfl, hg, (hO.block g (Array.getElem?_eq_some_iff.1 hb).1 (hx g rfl)).trans hb, r⟩
theorem row_below (h : w.ownsRow N τ sz v n xs) (hB : Below w.heap.size w w') : w'.ownsRow N τ sz v n xs := row_out (X := fun _ => False) h (Out.of_below hB) (fun _ _ h => h)
theorem row_cell (h : w.ownsRow N τ sz (.slice (some ⟨gg, 0, none⟩) n c) n xs) {j : Nat} (hj : j < n * sz) : w.cell? ⟨gg, j, none⟩ = some (xs.getD j undef) ∧ w.frozen? ⟨gg, j, none⟩ = false := by
  rcases h.2 with ⟨h0, h1⟩ | ⟨g, cap', cur, hv, hg, hh, hc1, hc2, hc3, hc4⟩
  · cases h0
  · cases hv
    have h5 : cur.toList[j]? = some (xs.getD j undef) := by
      have h6 : (cur.toList.take (n * sz))[j]? = xs[j]? := by rw [hc4]
      rw [List.getElem?_take, if_pos hj] at h6
      have h7 : j < xs.length := by rw [h.1]; exact hj
      rw [h6, List.getElem?_eq_getElem h7]
      simp [List.getD, h7]
    refine ⟨?_, by simp [World.frozen?, hh]⟩
    simp only [World.cell?, hh]
    simpa using h5
theorem row_ptr (h : w.ownsRow N τ sz (.slice a n c) n xs) (hn : 0 < n) : ∃ g, a = some ⟨g, 0, none⟩ ∧ N ≤ g ∧ g < w.heap.size := by
  rcases h.2 with ⟨h0, h1⟩ | ⟨g, cap', cur, hv, hg, hh, _⟩
  · omega
  · cases hv
    exact ⟨g, rfl, hg, (Array.getElem?_eq_some_iff.1 hh).1⟩
theorem row_store (h : w.ownsRow N τ sz (.slice (some ⟨gg, 0, none⟩) n c) n xs) (j : Nat) (u : Value) : (w.setCell ⟨gg, j, none⟩ u).ownsRow N τ sz (.slice (some ⟨gg, 0, none⟩) n c) n (xs.set j u) := by
  rcases h.2 with ⟨h0, h1⟩ | ⟨g, cap', cur, hv, hg, hh, hc1, hc2, hc3, hc4⟩
  · cases h0
  · cases hv
    refine ⟨by simpa using h.1, .inr ⟨gg, c, cur.setIfInBounds j u, rfl, hg, heap_set hh j u, hc1, hc2, by simpa using hc3, ?_⟩⟩
    rw [Array.toList_setIfInBounds, List.take_set, hc4]
/-- One element less. -/
theorem row_less (h : w.ownsRow N τ sz (.slice (some ⟨gg, 0, none⟩) (n + 1) c) (n + 1) xs) : w.ownsRow N τ sz (.slice (some ⟨gg, 0, none⟩) n c) n (xs.take (n * sz)) := by
  rcases h.2 with ⟨h0, h1⟩ | ⟨g, cap', cur, hv, hg, hh, hc1, hc2, hc3, hc4⟩
  · cases h0
  · cases hv
    refine ⟨?_, .inr ⟨gg, c, cur, rfl, hg, hh, by omega, hc2, hc3, ?_⟩⟩
    · rw [List.length_take, h.1, Nat.add_mul]; omega
    · rw [← hc4, List.take_take, Nat.min_eq_left (Nat.mul_le_mul_right _ (by omega))]
end


end Go.Proofs.YtgonbicpehjogaaGreatDoor
