/-
  The document's store: what a command does to the keys.
-/
import Derived.Test.YtglhjgfaelfleaaGreatPl
namespace Go.Proofs.YtglhjgfaelfleaaGreat
open Go.RowKit
set_option linter.unusedVariables false

/-- A command that lies by itself. -/
def Dc (W : World) (r : Nat) (op cl sq : Int) (ky vl od : Bs) : Prop := W.heap[r]? = some (.cells #[.int .i64 op, .int .i64 cl, .int .i64 sq, .string ⟨ky.toArray⟩, .string ⟨vl.toArray⟩, .string ⟨od.toArray⟩] 44)
theorem Dc.cells {W : World} {r : Nat} {op cl sq : Int} {ky vl od : Bs} (h : Dc W r op cl sq ky vl od) : CmAt W r 0 ⟨op, cl, sq, ky, vl, od⟩ := by
  refine ⟨?_, ?_, ?_, ?_, ?_, ?_⟩ <;> (simp only [World.cell?, show W.heap[r]? = _ from h]; rfl)
theorem Dc.below {W W' : World} {r : Nat} {op cl sq : Int} {ky vl od : Bs} (h : Dc W r op cl sq ky vl od) (hB : Below W.heap.size W W') : Dc W' r op cl sq ky vl od := (hB.block r (Array.getElem?_eq_some_iff.1 h).1).trans h
theorem DS.free {N : Nat} {W : World} {d : Nat} {vp vs : Value} {K : KV} (h : DS N W d vp vs K) : W.frozen? ⟨d, 0, none⟩ = false ∧ W.frozen? ⟨d, 1, none⟩ = false := by
  have h' := h.hd
  constructor <;> simp [World.frozen?, h']
theorem box2 (w : World) (o o' : Obj) : ((w.alloc o).alloc o').heap[w.heap.size + 1]? = some o' := by
  have h : (w.alloc o).heap.size = w.heap.size + 1 := by simp
  have := heap_alloc_new (w.alloc o) o'
  rw [h] at this
  exact this

theorem run_append_pc {α : Type} (R : RK α) (ty : TypeId) (w : World) (N : Nat) (v : Value) (xs ys : List α) (hv : Ro R N w v xs) (xa : Option Addr) (cap : Nat) (hc : Pc R w xa ys) (hs : ∀ ad, xa = some ad → ad.spot = none) (hcap : xa = none → cap = 0) (hlen : xs.length + ys.length ≤ 1000000000) (hN : N ≤ w.heap.size) :
    ∃ v' w', (Builtin.append_ #[R.S, R.S] ty #[v, .slice xa ys.length cap]).run Tryz.prog w = .ok v' w' ∧ Ro R N w' v' (xs ++ ys) ∧ w.grownBy w' v.ownBlock ∧ (v'.ownBlock = v.ownBlock ∨ v'.ownBlock = some w.heap.size) := by
  cases xa with
  | none =>
    have hy : ys = [] := by
      rcases hc with h | ⟨b, off, e, _⟩
      · exact h
      · cases e
    subst hy
    obtain ⟨i0, hi, hz0, hz1, hz2⟩ := info_parts R.info
    rw [hcap rfl]
    refine ⟨v, w, ?_, by simpa using hv, grown_refl w _, .inl rfl⟩
    rcases hv.2 with ⟨rfl, _⟩ | ⟨g, cap', cur, rfl, _, _, hnc, _⟩
    · simp [Builtin.append_, run_underlying R.und, sizeOf, typeInfo, hi, Builtin.lenOf, Builtin.firstCells]
    · simp [Builtin.append_, run_underlying R.und, sizeOf, typeInfo, hi, Builtin.lenOf, Builtin.firstCells, hnc, storeCells]
  | some ad =>
    refine run_append_rs R ty w N v xs ys hv ad cap (hs ad rfl) ?_ hlen hN
    rcases hc with rfl | ⟨b, off, e, hc⟩
    · simp
    · cases e; exact hc
theorem wpList_append_pc {α : Type} (R : RK α) {ops : Array Oper} {rest : List Oper} {o : Oper} {a : Act} {Q : Exit → Act → World → Prop} {w : World} (hgd : o.guard = none) (s y : Operand)
    (ho : o.op = .call { callee := .builtin .append, args := #[s, y], argTypes := #[R.S, R.S] })
    (N : Nat) (v : Value) (xs ys : List α) (hs : a.eval s = v) (hv : Ro R N w v xs) (xa : Option Addr) (n cap : Nat) (hy : a.eval y = .slice xa n cap) (hn : n = ys.length) (hc : Pc R w xa ys) (hsp : ∀ ad, xa = some ad → ad.spot = none) (hcap : xa = none → cap = 0) (hlen : xs.length + ys.length ≤ 1000000000) (hN : N ≤ w.heap.size)
    (h : ∀ v' w', Ro R N w' v' (xs ++ ys) → w.grownBy w' v.ownBlock → (v'.ownBlock = v.ownBlock ∨ v'.ownBlock = some w.heap.size) → wpList Tryz.prog ops Q rest (a.put o.dst v') w') :
    wpList Tryz.prog ops Q (o :: rest) a w := by
  subst hn
  refine wpList_plain hgd fun K hK => ?_
  obtain ⟨v', w', hr, h2, h3, h4⟩ := run_append_pc R o.type w N v xs ys hv xa cap hc hsp hcap hlen hN
  unfold Oper.wp execOp
  simp only [ho, resolve, invoke, builtin, Sem.run_bind, Sem.run_pure, Result.andThen_ok, List.map_toArray, List.map_cons, List.map_nil, hs, hy, hr]
  exact hK _ _ (h v' w' h2 h3 h4)

/-- What is left: the reply, and the store. -/
def DoR (N : Nat) (W : World) (d : Nat) (vp vs : Value) (K : KV) (p : List (Bs × Bs) × Rp) (e : Ending) (w' : World) : Prop :=
  e = .returned (.agg #[.int .i64 p.2.code, .string ⟨p.2.val.toArray⟩]) ∧ (∃ vp', w'.heap[d]? = some (.cells #[vp', vs] 63 (0, 0)) ∧ Ro RQ N w' vp' p.1 ∧ Ro RT N w' vs K.ss) ∧ Out (fun i => i = d ∨ vp.ownBlock = some i) W w'
theorem DoR.keep {N : Nat} {W w' : World} {d : Nat} {vp vs : Value} {K : KV} {r : Rp} (h : DS N W d vp vs K) (hB : Below W.heap.size W w') : DoR N W d vp vs K (K.ps, r) (.returned (.agg #[.int .i64 r.code, .string ⟨r.val.toArray⟩])) w' :=
  ⟨rfl, ⟨vp, (h.below hB).hd, (h.below hB).rp, (h.below hB).rs⟩, Out.of_below hB⟩

theorem Ro.apart {α : Type} {R : RK α} {N : Nat} {W : World} {v : Value} {xs : List α} (h : Ro R N W v xs) {d : Nat} {cs : Array Value} {t : TypeId} {z : Nat × Nat} (hd : W.heap[d]? = some (.cells cs t z)) (ht : t ≠ R.E) : v.ownBlock ≠ some d := by
  rcases h.2 with ⟨rfl, _⟩ | ⟨g, cap, cur, rfl, _, hgb, _⟩
  · simp [Value.ownBlock]
  · intro e
    obtain rfl : g = d := by simpa [Value.ownBlock] using e
    rw [hd] at hgb
    simp at hgb
    exact ht hgb.2.1
theorem set_head {W : World} {d : Nat} {a b u : Value} {t : TypeId} (h : W.heap[d]? = some (.cells #[a, b] t (0, 0))) : (W.setCell ⟨d, 0, none⟩ u).heap[d]? = some (.cells #[u, b] t (0, 0)) := by
  show (W.heap.modify d _)[d]? = _
  rw [Array.getElem?_eq_getElem (by rw [Array.size_modify]; exact (Array.getElem?_eq_some_iff.1 h).1), Array.getElem_modify_self, (Array.getElem?_eq_some_iff.1 h).2]
  rfl
/-- A row of its own takes the place of the keys. -/
theorem DoR.new {N : Nat} {W W2 W5 : World} {d q : Nat} {vp vs v5 : Value} {K : KV} {ps' : List (Bs × Bs)} {r : Rp} {c : Int} {x : Bs} {u u' : Value} (h2 : DS N W2 d vp vs K) (hN : N ≤ W.heap.size) (hd : d < W.heap.size) (hB2 : Below W.heap.size W W2) (hB5 : Below W2.heap.size W2 W5) (hR : Ro RQ W2.heap.size W5 v5 ps') (hq : W.heap.size ≤ q) (hqb : Rb W5 q c x) (hqs : q < W2.heap.size) :
    DoR N W d vp vs K (ps', r) (.returned (.agg #[.int .i64 r.code, .string ⟨r.val.toArray⟩])) (((W5.setCell ⟨d, 0, none⟩ v5).setCell ⟨q, 0, none⟩ u).setCell ⟨q, 1, none⟩ u') := by
  have h5 := h2.below hB5
  have hO : Out (fun i => i = d ∨ i = q) W5 (((W5.setCell ⟨d, 0, none⟩ v5).setCell ⟨q, 0, none⟩ u).setCell ⟨q, 1, none⟩ u') :=
    ((Out.set (X := fun i => i = d ∨ i = q) (w := W5) (.inl rfl)).put (.inr rfl)).put (.inr rfl)
  have hz := hB2.size
  refine ⟨rfl, ⟨v5, ?_, ?_, ?_⟩, ?_⟩
  · have e1 := set_head (u := v5) h5.hd
    have hne : q ≠ d := by omega
    have e2 : Out (fun i => i = q) (W5.setCell ⟨d, 0, none⟩ v5) (((W5.setCell ⟨d, 0, none⟩ v5).setCell ⟨q, 0, none⟩ u).setCell ⟨q, 1, none⟩ u') := (Out.set (X := fun i => i = q) rfl).put rfl
    exact (e2.block d (Array.getElem?_eq_some_iff.1 e1).1 (fun e => hne e.symm)).trans e1
  · refine (hR.base (Nat.le_trans hN hz)).out hO (fun g hg => ?_)
    have := (hR.lt hg).1
    rintro (e | e) <;> omega
  · refine h5.rs.out hO (fun g hg => ?_)
    have hq' : W5.heap[q]? = some (.cells #[.int .i64 c, .string ⟨x.toArray⟩] 40 (0, 0)) := hqb
    rintro (e | e)
    · exact h5.rs.apart h5.hd (by decide) (e ▸ hg)
    · exact h5.rs.apart hq' (by decide) (e ▸ hg)
  · have hB : Below W.heap.size W W5 := hB2.trans (hB5.mono hz)
    refine (Out.of_below (X := fun i => i = d ∨ vp.ownBlock = some i) hB).trans hO (fun i hi hl => ?_)
    rcases hi with e | e
    · exact .inl e
    · omega

/-- One thing of a row is written over. -/
theorem Ro.set {α : Type} {R : RK α} {N : Nat} {w : World} {g n cap : Nat} {xs : List α} (h : Ro R N w (.slice (some ⟨g, 0, none⟩) n cap) xs) (i j : Nat) (hi : i < xs.length) (hj : j < R.k) (u : Value) (x : α) (hx : R.enc x = (R.enc xs[i]).set j u) : Ro R N (w.setCell ⟨g, i * R.k + j, none⟩ u) (.slice (some ⟨g, 0, none⟩) n cap) (xs.set i x) := by
  rcases h.2 with ⟨e, _⟩ | ⟨g', cap', cur, e, hN, hb, h3, h4, h5, h6⟩
  · cases e
  · obtain ⟨rfl, rfl, rfl⟩ : g = g' ∧ n = xs.length ∧ cap = cap' := by simpa using e
    have hij : i * R.k + j < xs.length * R.k := by
      have := Nat.mul_le_mul_right R.k (show i + 1 ≤ xs.length from hi)
      rw [Nat.add_mul, Nat.one_mul] at this
      omega
    have hcs : i * R.k + j < cur.size := by rw [h5]; exact Nat.lt_of_lt_of_le hij (Nat.mul_le_mul_right _ h3)
    have hflat : (xs.set i x).flatMap R.enc = (xs.flatMap R.enc).set (i * R.k + j) u := by
      apply List.ext_getElem?
      intro t
      by_cases ht : t < xs.length * R.k
      · have hq : t / R.k < xs.length := Nat.div_lt_of_lt_mul (by rw [Nat.mul_comm]; exact ht)
        have hm : t % R.k < R.k := Nat.mod_lt _ R.pos
        have et : t / R.k * R.k + t % R.k = t := Nat.div_add_mod' t R.k
        have e1 := flat_get R (xs.set i x) (t / R.k) (t % R.k) (by simpa using hq) hm
        have e2 := flat_get R xs (t / R.k) (t % R.k) hq hm
        rw [et] at e1 e2
        rw [e1, List.getElem?_set]
        by_cases hti : t / R.k = i
        · subst hti
          simp only [List.getElem_set_self]
          rw [hx, List.getElem?_set]
          by_cases htj : t % R.k = j
          · subst htj
            rw [if_pos et, if_pos rfl, if_pos (by rw [R.len]; exact hm), if_pos (by rw [flat_len]; exact hij)]
          · rw [if_neg (fun e => htj e.symm), if_neg (fun e => htj (by omega)), e2]
        · have hne : i * R.k + j ≠ t := fun e => hti (by rw [← e, Nat.add_comm, Nat.add_mul_div_right _ _ R.pos, Nat.div_eq_of_lt hj, Nat.zero_add])
          rw [if_neg hne, List.getElem_set_ne (fun e => hti e.symm), e2]
      · rw [List.getElem?_eq_none (by rw [flat_len, List.length_set]; omega), List.getElem?_eq_none (by rw [List.length_set, flat_len]; omega)]
    refine ⟨flat_len R _, .inr ⟨g, cap, cur.set (i * R.k + j) u hcs, by rw [List.length_set], hN, ?_, by rw [List.length_set]; exact h3, h4, by simp [h5], ?_⟩⟩
    · show (w.heap.modify g _)[g]? = _
      rw [Array.getElem?_eq_getElem (by rw [Array.size_modify]; exact (Array.getElem?_eq_some_iff.1 hb).1), Array.getElem_modify_self, (Array.getElem?_eq_some_iff.1 hb).2]
      simp [Array.setIfInBounds, hcs]
    · rw [hflat, ← h6, List.length_set]
      simp [List.take_set]
theorem Ro.setOut {α : Type} {R : RK α} {N : Nat} {w : World} {g n cap : Nat} {xs : List α} (h : Ro R N w (.slice (some ⟨g, 0, none⟩) n cap) xs) : N ≤ g ∧ g < w.heap.size := h.lt rfl
/-- A thing of the keys' row was written over. -/
theorem DoR.over {N : Nat} {W W2 W3 : World} {d q : Nat} {vp vs : Value} {K : KV} {ps' : List (Bs × Bs)} {r : Rp} {c : Int} {x : Bs} {u u' : Value} (h2 : DS N W2 d vp vs K) (hd : d < W.heap.size) (hB2 : Below W.heap.size W W2) (hR : Ro RQ N W3 vp ps') (hO : Out (fun i => vp.ownBlock = some i) W2 W3) (hq : W.heap.size ≤ q) (hqb : Rb W2 q c x) :
    DoR N W d vp vs K (ps', r) (.returned (.agg #[.int .i64 r.code, .string ⟨r.val.toArray⟩])) ((W3.setCell ⟨q, 0, none⟩ u).setCell ⟨q, 1, none⟩ u') := by
  have hO2 : Out (fun i => i = q) W3 ((W3.setCell ⟨q, 0, none⟩ u).setCell ⟨q, 1, none⟩ u') := (Out.set (X := fun i => i = q) rfl).put rfl
  have hq' : W2.heap[q]? = some (.cells #[.int .i64 c, .string ⟨x.toArray⟩] 40 (0, 0)) := hqb
  have hz := hB2.size
  refine ⟨rfl, ⟨vp, ?_, ?_, ?_⟩, ?_⟩
  · have e1 := (hO.block d (by omega) (h2.rp.apart h2.hd (by decide))).trans h2.hd
    exact (hO2.block d (Array.getElem?_eq_some_iff.1 e1).1 (by omega)).trans e1
  · exact hR.out hO2 (fun g hg e => h2.rp.apart hq' (by decide) (e ▸ hg))
  · have h3 : Ro RT N W3 vs K.ss := h2.rs.out hO (fun g hg e => by
      rcases h2.rp.2 with ⟨hv, _⟩ | ⟨g', cap, cur, hv, _, hgb, _⟩
      · rw [hv] at e; simp [Value.ownBlock] at e
      · have : g' = g := by rw [hv] at e; simpa [Value.ownBlock] using e
        subst this
        exact h2.rs.apart hgb (by decide) hg)
    exact h3.out hO2 (fun g hg e => h2.rs.apart hq' (by decide) (e ▸ hg))
  · refine ((Out.of_below (X := fun i => i = d ∨ vp.ownBlock = some i) hB2).trans hO (fun i hi _ => .inr hi)).trans hO2 (fun i hi hl => ?_)
    omega
end Go.Proofs.YtglhjgfaelfleaaGreat
