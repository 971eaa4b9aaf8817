/-
  Rows of things of several cells: of the call's own, appended to, sorted.
-/
import Derived.Test.YtglhjgfaelfleaaGreatD6
import Derived.Shelf.SlSortCmp.WholeK
import Derived.Shelf.Lay
import Derived.Ground.SlsfProg
namespace Go.Proofs.YtglhjgfaelfleaaGreat
open Go.RowKit Go.Shelf Go.Sort

/-- How a thing lies in a row: the row's type, the thing's, its cells. -/
structure RK (α : Type) where
  E : TypeId
  S : TypeId
  k : Nat
  bytes : Nat
  z : Value
  enc : α → List Value
  len : ∀ x, (enc x).length = k
  one : ∀ x, ∀ v ∈ enc x, v.oneCell' = true
  pos : 0 < k
  und : Tryz.prog.underlying S = some (.slice E)
  info : (Tryz.prog.info? E).map (fun i => (i.zero, i.size, i.bytes)) = some (some z, k, bytes)
  zc : z.cells.size = k
  by64 : bytes ≤ 64

variable {α : Type}
/-- v is a slice of the call's own, from block N on, that holds xs. -/
def Ro (R : RK α) (N : Nat) (w : World) (v : Value) (xs : List α) : Prop := w.ownsRow N R.E R.k v xs.length (xs.flatMap R.enc)

theorem flat_len (R : RK α) (xs : List α) : (xs.flatMap R.enc).length = xs.length * R.k := by
  induction xs with
  | nil => simp
  | cons x q ih => rw [List.flatMap_cons, List.length_append, R.len, ih, List.length_cons, Nat.add_mul, Nat.one_mul, Nat.add_comm]
theorem flat_get (R : RK α) : ∀ (xs : List α) (i j : Nat) (hi : i < xs.length), j < R.k → (xs.flatMap R.enc)[i * R.k + j]? = (R.enc xs[i])[j]?
  | [], i, j, hi, _ => by simp at hi
  | x :: q, 0, j, _, hj => by
    simp only [List.flatMap_cons, Nat.zero_mul, Nat.zero_add, List.getElem_cons_zero]
    rw [List.getElem?_append_left (by rw [R.len]; exact hj)]
  | x :: q, i + 1, j, hi, hj => by
    have hi' : i < q.length := by simpa using hi
    simp only [List.flatMap_cons, List.getElem_cons_succ]
    rw [List.getElem?_append_right (by rw [R.len, Nat.add_mul, Nat.one_mul]; omega), R.len]
    rw [show (i + 1) * R.k + j - R.k = i * R.k + j by rw [Nat.add_mul, Nat.one_mul]; omega]
    exact flat_get R q i j hi' hj
theorem flat_one (R : RK α) (xs : List α) : ∀ u ∈ xs.flatMap R.enc, u.oneCell' = true := fun u hu => by
  obtain ⟨x, _, hx⟩ := List.mem_flatMap.1 hu
  exact R.one x u hx
theorem flatK_list [Inhabited α] (R : RK α) (xs : List α) : (flatK R.enc R.k xs.toArray).toList = xs.flatMap R.enc := by
  apply List.ext_getElem
  · rw [flat_len]; simp
  · intro t h1 h2
    have ht : t < xs.length * R.k := by rw [flat_len] at h2; exact h2
    have h3 : t / R.k < xs.length := Nat.div_lt_of_lt_mul (by rw [Nat.mul_comm]; exact ht)
    have h4 : t % R.k < R.k := Nat.mod_lt _ R.pos
    have e := flat_get R xs (t / R.k) (t % R.k) h3 h4
    have e1 : t / R.k * R.k + t % R.k = t := Nat.div_add_mod' t R.k
    rw [e1, List.getElem?_eq_getElem h2] at e
    have e2 : (flatK R.enc R.k xs.toArray)[t]! = (R.enc xs.toArray[t / R.k]!)[t % R.k]! := get_flatK R.enc R.k xs.toArray t (by simpa using ht)
    rw [getElem!_pos _ t (by simpa using ht)] at e2
    have e3 : xs.toArray[t / R.k]! = xs[t / R.k] := by rw [getElem!_pos _ _ (by simpa using h3)]; simp
    rw [e3] at e2
    have h5 : t % R.k < (R.enc xs[t / R.k]).length := by rw [R.len]; exact h4
    rw [getElem!_pos (R.enc xs[t / R.k]) (t % R.k) h5] at e2
    rw [List.getElem?_eq_getElem h5] at e
    have e4 : (flatK R.enc R.k xs.toArray).toList[t] = (flatK R.enc R.k xs.toArray)[t]'(by simpa using ht) := by simp
    rw [e4, e2]
    exact (Option.some.inj e).symm

theorem Ro.nil (R : RK α) (N : Nat) (w : World) : Ro R N w (.slice none 0 0) [] := World.ownsRow_nil _ _ _ _
theorem Ro.shape {R : RK α} {N : Nat} {w : World} {v : Value} {xs : List α} (h : Ro R N w v xs) : ∃ a cap, v = .slice a xs.length cap ∧ xs.length ≤ cap ∧ cap ≤ maxLen := by
  rcases h.2 with ⟨rfl, h2⟩ | ⟨g, cap, cur, rfl, _, _, h3, h4, _⟩
  · exact ⟨none, 0, by rw [h2], by omega, by unfold maxLen; omega⟩
  · exact ⟨_, _, rfl, h3, h4⟩
theorem Ro.kept {R : RK α} {N : Nat} {w w' : World} {v : Value} {xs : List α} {row : Option Nat} (h : Ro R N w v xs) (hg : w.grownBy w' row) (hne : v.ownBlock = none ∨ v.ownBlock ≠ row) : Ro R N w' v xs := World.ownsRow.kept h hg hne
theorem Ro.out {R : RK α} {X : Nat → Prop} {N : Nat} {w w' : World} {v : Value} {xs : List α} (h : Ro R N w v xs) (hO : Out X w w') (hx : ∀ g, v.ownBlock = some g → ¬ X g) : Ro R N w' v xs := by
  refine ⟨h.1, ?_⟩
  rcases h.2 with h2 | ⟨g, cap, cur, rfl, hg, hb, r⟩
  · exact .inl h2
  · exact .inr ⟨g, cap, cur, rfl, hg, (hO.block g (Array.getElem?_eq_some_iff.1 hb).1 (hx g rfl)).trans hb, r⟩
theorem Ro.below {R : RK α} {N B : Nat} {w w' : World} {v : Value} {xs : List α} (h : Ro R N w v xs) (hB : Below B w w') (hs : w.heap.size ≤ B) : Ro R N w' v xs :=
  h.kept (row := none) ⟨hB.os, hB.tape, hB.output, hB.size, fun k hk _ => hB.block k (by omega)⟩ (by cases v.ownBlock <;> simp)
theorem Ro.alloc {R : RK α} {N : Nat} {w : World} {v : Value} {xs : List α} (h : Ro R N w v xs) (o : Obj) : Ro R N (w.alloc o) v xs :=
  h.kept (World.grownBy_alloc w o none) (by cases v.ownBlock <;> simp)
theorem Ro.lt {R : RK α} {N : Nat} {w : World} {v : Value} {xs : List α} (h : Ro R N w v xs) {g : Nat} (hg : v.ownBlock = some g) : N ≤ g ∧ g < w.heap.size := World.ownsRow.lt h g hg
theorem Ro.base {R : RK α} {N N' : Nat} {w : World} {v : Value} {xs : List α} (h : Ro R N w v xs) (hN : N' ≤ N) : Ro R N' w v xs := by
  refine ⟨h.1, ?_⟩
  rcases h.2 with h2 | ⟨g, cap, cur, hv, hg, r⟩
  · exact .inl h2
  · exact .inr ⟨g, cap, cur, hv, by omega, r⟩
/-- A thing of a row: its cells. -/
theorem Ro.at0 {R : RK α} {N : Nat} {w : World} {v : Value} {xs : List α} (h : Ro R N w v xs) (hp : 0 < xs.length) :
    ∃ g cap, v = .slice (some ⟨g, 0, none⟩) xs.length cap ∧ N ≤ g ∧ g < w.heap.size ∧ (∃ cur, w.heap[g]? = some (.cells cur R.E (0, 0))) ∧ ∀ i j (hi : i < xs.length), j < R.k → w.cell? ⟨g, i * R.k + j, none⟩ = (R.enc xs[i])[j]? := by
  rcases h.2 with ⟨_, h2⟩ | ⟨g, cap, cur, rfl, hN, hb, h3, h4, h5, h6⟩
  · omega
  · refine ⟨g, cap, rfl, hN, (Array.getElem?_eq_some_iff.1 hb).1, ⟨cur, hb⟩, fun i j hi hj => ?_⟩
    rw [← flat_get R xs i j hi hj, ← h6, List.getElem?_take_of_lt]
    · simp only [World.cell?, hb]
      simp
    · have := Nat.mul_le_mul_right R.k (show i + 1 ≤ xs.length from hi)
      rw [Nat.add_mul, Nat.one_mul] at this
      omega
/-- One thing more, written out by itself. -/
theorem run_append_ro (R : RK α) (ty : TypeId) (w : World) (N : Nat) (v : Value) (xs : List α) (x : α) (hv : Ro R N w v xs) (hlen : xs.length ≤ 1000000000) (hN : N ≤ w.heap.size) :
    ∃ v' w', (Builtin.append_ #[R.S, R.S] ty #[v, .slice (some ⟨w.heap.size, 0, none⟩) 1 1]).run Tryz.prog (w.alloc (.cells (R.enc x).toArray R.E)) = .ok v' w' ∧ Ro R N w' v' (xs ++ [x]) ∧ (w.alloc (.cells (R.enc x).toArray R.E)).grownBy w' v.ownBlock ∧ (v'.ownBlock = v.ownBlock ∨ v'.ownBlock = some (w.heap.size + 1)) := by
  obtain ⟨i0, hi, hz0, hz1, hz2⟩ := info_parts R.info
  obtain ⟨v', w', r1, r2, r3, _, r5⟩ := run_append_own_at (P := Tryz.prog) (w.alloc (.cells (R.enc x).toArray R.E)) N R.S ty R.E i0 R.z R.k R.bytes R.und hi hz0 hz1 hz2 R.zc R.pos v xs.length (xs.flatMap R.enc) (hv.alloc _) ⟨w.heap.size, 0, none⟩ 1 1 (R.enc x) (by rw [R.len, Nat.one_mul])
    (fun j u hj => by
      have hh : (w.alloc (.cells (R.enc x).toArray R.E)).heap[w.heap.size]? = some (.cells (R.enc x).toArray R.E) := heap_alloc_new w _
      rw [Addr.add_lit]
      simp only [World.cell?, hh]
      simpa using hj) (R.one x) (by unfold maxLen; omega) (Nat.le_trans (Nat.mul_le_mul_left _ R.by64) (by omega)) (by simp; omega)
  refine ⟨v', w', r1, ?_, r3, by simpa using r5⟩
  unfold Ro
  simpa using r2
/-- An append of one thing that was just written out, as a law of the walk. -/
theorem wpList_append_ro (R : RK α) {ops : Array Oper} {rest : List Oper} {o : Oper} {a : Act} {Q : Exit → Act → World → Prop} {w : World} (hgd : o.guard = none) (s y : Operand)
    (ho : o.op = .call { callee := .builtin .append, args := #[s, y], argTypes := #[R.S, R.S] })
    (N : Nat) (v : Value) (xs : List α) (x : α) (hs : a.eval s = v) (hv : Ro R N w v xs) {B : Nat} (hy : a.eval y = .slice (some ⟨B, 0, none⟩) 1 1) (hB : B = w.heap.size) (hlen : xs.length ≤ 1000000000) (hN : N ≤ w.heap.size)
    (h : ∀ v' w', Ro R N w' v' (xs ++ [x]) → (w.alloc (.cells (R.enc x).toArray R.E)).grownBy w' v.ownBlock → (v'.ownBlock = v.ownBlock ∨ v'.ownBlock = some (w.heap.size + 1)) → wpList Tryz.prog ops Q rest (a.put o.dst v') w') :
    wpList Tryz.prog ops Q (o :: rest) a (w.alloc (.cells (R.enc x).toArray R.E)) := by
  subst hB
  refine wpList_plain hgd fun K hK => ?_
  obtain ⟨v', w', hr, h2, h3, h4⟩ := run_append_ro R o.type w N v xs x hv hlen hN
  unfold Oper.wp execOp
  simp only [ho, resolve, invoke, builtin, Sem.run_bind, Sem.run_pure, Result.andThen_ok, List.map_toArray, List.map_cons, List.map_nil, hs, hy, hr]
  exact hK _ _ (h v' w' h2 h3 h4)

/-- A row for the sort. -/
theorem Ro.holds [Inhabited α] {R : RK α} {w : World} {g : Nat} {cur : Array Value} {xs : List α} (hb : w.heap[g]? = some (.cells cur R.E (0, 0))) (ht : cur.toList.take (xs.length * R.k) = xs.flatMap R.enc) : HoldsK R.enc R.k w g 0 xs.toArray := by
  intro j hj
  have hj' : j < xs.length * R.k := by simpa using hj
  refine ⟨?_, by simp [World.frozen?, hb]⟩
  have h1 : (cur.toList.take (xs.length * R.k))[j]? = (xs.flatMap R.enc)[j]? := by rw [ht]
  rw [List.getElem?_take_of_lt hj'] at h1
  simp only [World.cell?, hb, Nat.zero_add]
  simp only [Option.isSome_none, Bool.false_eq_true, if_false]
  rw [← Array.getElem?_toList, h1, ← flatK_list, Array.getElem?_toList, Array.getElem?_eq_getElem hj]
  simp only [id]
  rw [getElem!_pos _ j hj]
theorem sortedK_heap [Inhabited α] {R : RK α} {w : World} {g n : Nat} {os : Array Obj} {cur : Array Value} {e : TypeId} {fr : Nat × Nat} (d : Array α) (hb : w.heap[g]? = some (.cells cur e fr)) :
    (sortWorldK R.enc R.k w g 0 n d os).heap[g]? = some (.cells (putCells id 0 (flatK R.enc R.k d) cur) e fr) := by
  have hg : g < w.heap.size := (Array.getElem?_eq_some_iff.1 hb).1
  unfold sortWorldK putRowK
  rw [heap_grow_old _ _ (by simpa using hg)]
  simp [putRow, mapBlock, Sort.ahead, Array.getElem?_modify, hb, onCells]
theorem sortedK_grown [Inhabited α] {R : RK α} {w : World} {g n : Nat} {os : Array Obj} (d : Array α) : w.grownBy (sortWorldK R.enc R.k w g 0 n d os) (some g) := by
  unfold sortWorldK putRowK
  refine ⟨rfl, rfl, rfl, by simp, fun k hk hne => ?_⟩
  rw [heap_grow_old _ _ (by simpa using hk)]
  have : g ≠ k := fun e => hne (by rw [e])
  simp [putRow, mapBlock, Sort.ahead, Array.getElem?_modify, this]
theorem sortedK_row [Inhabited α] {R : RK α} {w : World} {N g cap n : Nat} {os : Array Obj} {cur : Array Value} {xs ys : List α} (hl : ys.length = xs.length) (hbase : N ≤ g) (hb : w.heap[g]? = some (.cells cur R.E (0, 0)))
    (h1 : xs.length ≤ cap) (h2 : cap ≤ maxLen) (h3 : cur.size = cap * R.k) : Ro R N (sortWorldK R.enc R.k w g 0 n ys.toArray os) (.slice (some ⟨g, 0, none⟩) xs.length cap) ys := by
  refine ⟨flat_len R ys, .inr ⟨g, cap, _, by rw [hl], hbase, sortedK_heap _ hb, by omega, h2, by simp [putCells, h3], ?_⟩⟩
  have hc : ys.length * R.k ≤ cur.size := by rw [h3]; exact Nat.mul_le_mul_right _ (by omega)
  rw [← flatK_list]
  apply List.ext_getElem?
  intro j
  by_cases hj : j < ys.length * R.k
  · rw [List.getElem?_take_of_lt hj, Array.getElem?_toList, Array.getElem?_toList]
    simp [putCells, hj, show j < cur.size by omega]
  · rw [List.getElem?_take_eq_none (by omega), List.getElem?_eq_none (by simp; omega)]
end Go.Proofs.YtglhjgfaelfleaaGreat
