/-
  The document's network: what Link makes of the links that are cut.
-/
import Derived.Test.YtefbfjlmhfmiiaaRc
namespace Go.Proofs.Ytefbfjlmhfmiiaa
open Go.RowKit
set_option linter.unusedVariables false

def dropP (p : Pr) (C : List Pr) : List Pr := C.filter (fun q => decide (q ≠ p))
def cutP (p : Pr) (up : Bool) (C : List Pr) : List Pr := dropP p C ++ (if up = true then [] else [p])
theorem dropP_len (p : Pr) (C : List Pr) : (dropP p C).length ≤ C.length := List.length_filter_le _ _
theorem dropP_take_succ {p : Pr} {C : List Pr} {j : Nat} (h : j < C.length) : dropP p (C.take (j + 1)) = dropP p (C.take j) ++ (if C.getD j (0, 0) = p then [] else [C.getD j (0, 0)]) := by
  have e : C.getD j (0, 0) = C[j] := by rw [List.getD_eq_getElem?_getD, List.getElem?_eq_getElem h]; rfl
  rw [e, List.take_add_one, List.getElem?_eq_getElem h]
  unfold dropP
  rw [List.filter_append]
  by_cases hp : C[j] = p
  · simp [hp]
  · simp [hp]
theorem pairOf_eq (a b x y : Int) : pairOf x y = pairOf a b ↔ (x = a ∧ y = b) ∨ (x = b ∧ y = a) := by
  unfold pairOf
  simp only [Prod.mk.injEq]
  omega
theorem CutOk.link {P : PN} {C : List Pr} (h : CutOk P C) (hok : P.Ok) {a b : Int} (ht : P.two a b = true) (up : Bool) : CutOk (P.link a b up) (cutP (pairOf a b) up C) := by
  intro x y hxy
  have hl : P.link a b up = { P with L := linkL P.L a b up } := by unfold PN.link; rw [if_pos ht]
  have hxy' : P.two x y = true := by rw [hl] at hxy; exact hxy
  have h1 := h x y hxy'
  rw [hl]
  show lk (linkL P.L a b up) x y = false ↔ _
  obtain ⟨a1, a2, b1, b2, hne⟩ := PN.two_of hok ht
  obtain ⟨x1, x2, y1, y2, hnx⟩ := PN.two_of hok hxy'
  obtain ⟨i, rfl⟩ : ∃ i : Nat, a = (i : Int) := ⟨a.toNat, by omega⟩
  obtain ⟨j, rfl⟩ : ∃ j : Nat, b = (j : Int) := ⟨b.toNat, by omega⟩
  obtain ⟨p, rfl⟩ : ∃ p : Nat, x = (p : Int) := ⟨x.toNat, by omega⟩
  obtain ⟨q, rfl⟩ : ∃ q : Nat, y = (q : Int) := ⟨y.toNat, by omega⟩
  have hg := linkL_get P.L hok.len (i := i) (j := j) (p := p) (q := q) (by omega) (by omega) (by omega) (by omega) up
  have e1 : lk (linkL P.L (i : Int) (j : Int) up) (p : Int) (q : Int) = (linkL P.L (i : Int) (j : Int) up).getD (8 * p + q) false := rfl
  have e2 : lk P.L (p : Int) (q : Int) = P.L.getD (8 * p + q) false := rfl
  rw [e1, hg]
  rw [e2] at h1
  have hpe := pairOf_eq (i : Int) (j : Int) (p : Int) (q : Int)
  unfold cutP dropP
  simp only [List.mem_append, List.mem_filter, decide_eq_true_eq]
  by_cases hc : (p = i ∧ q = j) ∨ (p = j ∧ q = i)
  · rw [if_pos hc]
    have he : pairOf (p : Int) (q : Int) = pairOf (i : Int) (j : Int) := hpe.2 (by omega)
    rw [he]
    cases up <;> simp
  · rw [if_neg hc, h1]
    have he : ¬ pairOf (p : Int) (q : Int) = pairOf (i : Int) (j : Int) := fun e => hc (by have := hpe.1 e; omega)
    cases up <;> simp [he]
/-- An append of one pair, in a drawn region. -/
theorem step_append_p {ops : Array Oper} {o : Oper} {a : Act} {w : World} {K : Act → World → Prop} {Q : Exit → Act → World → Prop} {E : Prop}
    (hgd : o.guard = none) (s x : Operand) (hop : o.op = Op.call { callee := Callee.builtin Builtin.append, args := #[s, x], argTypes := #[37, 37] })
    (N : Nat) (v : Value) (xb xc : Nat) (C : List Pr) (p : Pr) (hs : a.eval s = v) (hv : POw N w v C) (hx : a.eval x = .slice (some ⟨xb, 0, none⟩) 1 xc) (h0 : w.cell? ⟨xb, 0, none⟩ = some (.int .i64 p.1)) (h1 : w.cell? ⟨xb, 1, none⟩ = some (.int .i64 p.2)) (hlen : C.length + 1 ≤ 1000000000) (hN : N ≤ w.heap.size)
    (h : ∀ v' w', POw N w' v' (C ++ [p]) → w.grownBy w' v.ownBlock → (v'.ownBlock = v.ownBlock ∨ v'.ownBlock = some w.heap.size) → K (a.put o.dst v') w') :
    if Region.wanted o (yielded ops a.tmps) = true then Oper.wp Try.prog o a w K Q else E := by
  have hw : Region.wanted o (yielded ops a.tmps) = true := by simp [Region.wanted, hgd]
  rw [if_pos hw]
  obtain ⟨v', w', hr, h2, h3, h4⟩ := run_append_p o.type w N v xb xc C p hv h0 h1 hlen hN
  unfold Oper.wp execOp
  simp only [hop, resolve, invoke, builtin, Sem.run_bind, Sem.run_pure, Result.andThen_ok, List.map_toArray, List.map_cons, List.map_nil, hs, hx, hr]
  exact h v' w' h2 h3 h4
theorem POw.lt {N : Nat} {w : World} {v : Value} {C : List Pr} (h : POw N w v C) {g : Nat} (hg : v.ownBlock = some g) : N ≤ g ∧ g < w.heap.size := by
  rcases h.2 with ⟨rfl, _⟩ | ⟨g', cap, cur, rfl, hg', hgb, _⟩
  · simp [Value.ownBlock] at hg
  · obtain rfl : g' = g := by simpa [Value.ownBlock] using hg
    exact ⟨hg', (Array.getElem?_eq_some_iff.1 hgb).1⟩
theorem POw.base {N M : Nat} {w : World} {v : Value} {C : List Pr} (h : POw N w v C) (hM : M ≤ N) : POw M w v C := by
  refine ⟨h.1, ?_⟩
  rcases h.2 with h2 | ⟨g, cap, cur, hv, hg, r⟩
  · exact .inl h2
  · exact .inr ⟨g, cap, cur, hv, Nat.le_trans hM hg, r⟩
theorem wpList_append_p {ops : Array Oper} {rest : List Oper} {o : Oper} {a : Act} {Q : Exit → Act → World → Prop} {w : World} (hgd : o.guard = none) (s x : Operand)
    (ho : o.op = .call { callee := .builtin .append, args := #[s, x], argTypes := #[37, 37] })
    (N : Nat) (v : Value) (xb xc : Nat) (C : List Pr) (p : Pr) (hs : a.eval s = v) (hv : POw N w v C) (hx : a.eval x = .slice (some ⟨xb, 0, none⟩) 1 xc) (h0 : w.cell? ⟨xb, 0, none⟩ = some (.int .i64 p.1)) (h1 : w.cell? ⟨xb, 1, none⟩ = some (.int .i64 p.2)) (hlen : C.length + 1 ≤ 1000000000) (hN : N ≤ w.heap.size)
    (h : ∀ v' w', POw N w' v' (C ++ [p]) → w.grownBy w' v.ownBlock → (v'.ownBlock = v.ownBlock ∨ v'.ownBlock = some w.heap.size) → wpList Try.prog ops Q rest (a.put o.dst v') w') :
    wpList Try.prog ops Q (o :: rest) a w := by
  refine wpList_plain hgd fun K hK => ?_
  obtain ⟨v', w', hr, h2, h3, h4⟩ := run_append_p o.type w N v xb xc C p hv h0 h1 hlen hN
  unfold Oper.wp execOp
  simp only [ho, resolve, invoke, builtin, Sem.run_bind, Sem.run_pure, Result.andThen_ok, List.map_toArray, List.map_cons, List.map_nil, hs, hx, hr]
  exact hK _ _ (h v' w' h2 h3 h4)
/-- The links' row anew. -/
theorem Rn.newCut {N : Nat} {S : Nat → Prop} {w wr : World} {b : Nat} {P P' : PN} {C C' : List Pr} (h : Rn N S w b P C) (hN : N ≤ w.heap.size) {v : Value} (hO : Out (fun i => i = b) w wr) (hb : ∀ u0 u1 u2 u3, w.heap[b]? = some (.cells #[u0, u1, u2, u3] 39 (0, 0)) → ∃ u, wr.heap[b]? = some (.cells #[u0, u1, u2, u] 39 (0, 0))) (hr : POw w.heap.size wr v C') (hn : P'.n = P.n) (hE : P'.E = P.E) (hk : P'.k = P.k) (ok : P'.Ok) (cok : CutOk P' C') : RTh N S w (wr.setCell ⟨b, 3, none⟩ v) b P' C' := by
  obtain ⟨va, vn, es, ca, cn, hm, hl, -, -, -, -, hv1, hv2, hv3⟩ := h.cells
  have hbw := h.inn _ h.Sb
  have hz := hO.size
  obtain ⟨u, hbr⟩ := hb _ _ _ _ hm.blk
  have hOb : Out (fun i => i = b) wr (wr.setCell ⟨b, 3, none⟩ v) := Out.set rfl
  have hrow := hm.row.out hO (by rintro g hg rfl; exact hm.row.not_at hm.blk (by decide) hg) (by rintro e he g hg rfl; exact (hm.row.dat e he).not_at hm.blk (by decide) hg)
  refine h.turn hN ((hO.mono (fun i hi => by rw [hi]; exact h.Sb)).trans hOb (fun i hi _ => by rw [hi]; exact h.Sb)) (.slice va P.E.length vn) es v ⟨?_, ?_, ?_, ?_⟩ (fun g hg => .inl (hv1 g hg)) (fun e he g hg => .inl (hv2 e he g hg)) (fun g hg => ?_) ok cok
  · rw [hn, hk, heap_set hbr 3 v]; rfl
  · exact hrow.out hOb (by rintro g hg rfl; exact hrow.not_at hbr (by decide) hg) (by rintro e he g hg rfl; exact (hrow.dat e he).not_at hbr (by decide) hg)
  · rw [hE]; exact hm.says
  · exact (hr.base (Nat.zero_le _)).out hOb (by rintro g hg rfl; exact hr.not_at hbr (by decide) hg)
  · right
    have := hr.lt hg
    rw [size_set]
    exact ⟨this.1, this.2⟩
theorem POw.alloc {N : Nat} {w : World} {v : Value} {C : List Pr} (h : POw N w v C) (o : Obj) : POw N (w.alloc o) v C := World.ownsRow.alloc h o
end Go.Proofs.Ytefbfjlmhfmiiaa
