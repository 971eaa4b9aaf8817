/-
  Rows of operations of the call's own that may begin inside their block; cut, appended to.
-/
import Derived.Test.YtefbfjlmhfmiiaaFw
namespace Go.Proofs.Ytefbfjlmhfmiiaa
open Go.RowKit
set_option linter.unusedVariables false

def opCells : List Opn → List Value
  | [] => []
  | o :: r => [.int .i64 o.kd, .int .i64 o.a, .int .i64 o.b, .bool o.up, o.x] ++ opCells r
theorem opCells_append (a b : List Opn) : opCells (a ++ b) = opCells a ++ opCells b := by
  induction a with
  | nil => rfl
  | cons e r ih => simp [opCells, ih]
theorem opCells_length (a : List Opn) : (opCells a).length = a.length * 5 := by
  induction a with
  | nil => rfl
  | cons e r ih => simp [opCells, ih]; omega
theorem opCells_one (u : List Opn) : ∀ x ∈ opCells u, x.oneCell' = true := by
  induction u with
  | nil => intro x hx; simp [opCells] at hx
  | cons e r ih =>
    intro x hx
    simp only [opCells, List.cons_append, List.nil_append, List.mem_cons] at hx
    rcases hx with rfl | rfl | rfl | rfl | rfl | hx
    · rfl
    · rfl
    · rfl
    · rfl
    · rfl
    · exact ih x hx
theorem opCells_drop (a : List Opn) (n : Nat) : opCells (a.drop n) = (opCells a).drop (n * 5) := by
  induction a generalizing n with
  | nil => simp [opCells]
  | cons e r ih =>
    cases n with
    | zero => simp
    | succ n =>
      have e1 : (n + 1) * 5 = n * 5 + 1 + 1 + 1 + 1 + 1 := by omega
      rw [e1]
      simp [opCells, ih n]

/-- v is a slice of the call's own that reads l; it may begin inside its block. -/
def Wq (W : World) (v : Value) (l : List Opn) : Prop :=
  (v = .slice none 0 0 ∧ l = []) ∨ ∃ g off cap cur, v = .slice (some ⟨g, off, none⟩) l.length cap ∧ W.heap[g]? = some (.cells cur 32 (0, 0)) ∧ l.length ≤ cap ∧ off + cap * 5 ≤ cur.size ∧ cap ≤ maxLen ∧ (cur.toList.drop off).take (l.length * 5) = opCells l

theorem Wq.nil (W : World) : Wq W (.slice none 0 0) [] := .inl ⟨rfl, rfl⟩
theorem Wq.shape {W : World} {v : Value} {l : List Opn} (h : Wq W v l) : ∃ a c, v = .slice a l.length c ∧ l.length ≤ c ∧ c ≤ maxLen := by
  rcases h with ⟨rfl, rfl⟩ | ⟨g, off, cap, cur, rfl, _, h1, _, h2, _⟩
  · exact ⟨none, 0, rfl, Nat.le_refl _, by unfold maxLen; omega⟩
  · exact ⟨_, _, rfl, h1, h2⟩
theorem Wq.out {X : Nat → Prop} {w w' : World} {v : Value} {l : List Opn} (h : Wq w v l) (hO : Out X w w') (hx : ∀ g, v.ownBlock = some g → ¬ X g) : Wq w' v l := by
  rcases h with h2 | ⟨g, off, cap, cur, rfl, hb, r⟩
  · exact .inl h2
  · exact .inr ⟨g, off, cap, cur, rfl, (hO.block g (Array.getElem?_eq_some_iff.1 hb).1 (hx g rfl)).trans hb, r⟩
theorem Wq.lt {W : World} {v : Value} {l : List Opn} (h : Wq W v l) {g : Nat} (hg : v.ownBlock = some g) : g < W.heap.size := by
  rcases h with ⟨rfl, _⟩ | ⟨g', off, cap, cur, rfl, hb, _⟩
  · simp [Value.ownBlock] at hg
  · simp [Value.ownBlock] at hg
    subst hg
    exact (Array.getElem?_eq_some_iff.1 hb).1
theorem Wq.not_at {W : World} {v : Value} {l : List Opn} (h : Wq W v l) {R : Nat} {cs : Array Value} {t : TypeId} {z : Nat × Nat} (hR : W.heap[R]? = some (.cells cs t z)) (ht : t ≠ 32) : v.ownBlock ≠ some R := by
  rcases h with ⟨rfl, _⟩ | ⟨g', off, cap, cur, rfl, hb, _⟩
  · simp [Value.ownBlock]
  · intro e'
    obtain rfl : g' = R := by simpa [Value.ownBlock] using e'
    rw [hR] at hb
    simp at hb
    exact ht hb.2.1
/-- The first one. -/
theorem Wq.first {W : World} {a : Option Addr} {c : Nat} {o : Opn} {l : List Opn} (h : Wq W (.slice a (l.length + 1) c) (o :: l)) : ∃ g off, a = some ⟨g, off, none⟩ ∧ g < W.heap.size ∧ W.cell? ⟨g, off, none⟩ = some (.int .i64 o.kd) ∧ W.cell? ⟨g, off + 1, none⟩ = some (.int .i64 o.a) ∧ W.cell? ⟨g, off + 2, none⟩ = some (.int .i64 o.b) ∧ W.cell? ⟨g, off + 3, none⟩ = some (.bool o.up) ∧ W.cell? ⟨g, off + 4, none⟩ = some o.x := by
  rcases h with ⟨_, h2⟩ | ⟨g, off, cap, cur, hv, hb, h1, h2, h3, h4⟩
  · cases h2
  · cases hv
    have key : ∀ j u, (opCells (o :: l))[j]? = some u → W.cell? ⟨g, off + j, none⟩ = some u := fun j u hu => by
      have hj := (List.getElem?_eq_some_iff.1 hu).1
      rw [← h4, List.getElem?_take] at hu
      split at hu
      · rw [List.getElem?_drop] at hu
        simp only [World.cell?, hb]
        simpa using hu
      · cases hu
    exact ⟨g, off, rfl, (Array.getElem?_eq_some_iff.1 hb).1, key 0 _ rfl, key 1 _ rfl, key 2 _ rfl, key 3 _ rfl, key 4 _ rfl⟩
/-- A slice s[1:]. -/
theorem Wq.cut {W : World} {g off c : Nat} {o : Opn} {l : List Opn} (h : Wq W (.slice (some ⟨g, off, none⟩) (l.length + 1) c) (o :: l)) (A : Option Addr) (hA : A = if c = 1 then some ⟨g, off, none⟩ else some ⟨g, off + 5, none⟩) : Wq W (.slice A l.length (c - 1)) l ∧ ∀ g', (Value.slice A l.length (c - 1)).ownBlock = some g' → g' = g := by
  rcases h with ⟨_, h2⟩ | ⟨g, off, cap, cur, hv, hb, h1, h2, h3, h4⟩
  · cases h2
  · cases hv
    simp only [List.length_cons] at h1
    have hd : (cur.toList.drop (off + 5)).take (l.length * 5) = opCells l := by
      have : (opCells (o :: l)).drop 5 = opCells l := by simp [opCells]
      rw [← this, ← h4, List.drop_take, List.drop_drop]
      congr 1
      simp
      omega
    by_cases hc : c = 1
    · rw [if_pos hc] at hA
      subst hA
      have hl : l = [] := List.length_eq_zero_iff.1 (by omega)
      subst hl
      refine ⟨.inr ⟨g, off, c - 1, cur, rfl, hb, by simp, by omega, by omega, by simp [opCells]⟩, fun g' hg' => by simpa [Value.ownBlock] using hg'.symm⟩
    · rw [if_neg hc] at hA
      subst hA
      refine ⟨.inr ⟨g, off + 5, c - 1, cur, rfl, hb, by omega, by omega, by omega, hd⟩, fun g' hg' => by simpa [Value.ownBlock] using hg'.symm⟩

theorem infoO : (Try.prog.info? 32).map (fun i => (i.zero, i.size, i.bytes)) = some (some (.agg #[.int .i64 0, .int .i64 0, .int .i64 0, .bool false, .slice none 0 0]), 5, 56) := by kernel_rfl

theorem run_append_wq (ty : TypeId) (w : World) (v : Value) (l : List Opn) (x : Opn) (b c : Nat) (hv : Wq w v l) (hx : ∀ j u, (opCells [x])[j]? = some u → w.cell? ⟨b, 0 + j, none⟩ = some u) (hlen : l.length + 1 ≤ 1000000) :
    ∃ v' w', (Builtin.append_ #[22, 22] ty #[v, .slice (some ⟨b, 0, none⟩) 1 c]).run Try.prog w = .ok v' w' ∧ Wq w' v' (l ++ [x]) ∧ w.grownBy w' v.ownBlock ∧ (v'.ownBlock = v.ownBlock ∨ v'.ownBlock = some w.heap.size) := by
  obtain ⟨i0, hi, hz0, hz1, hz2⟩ := info_parts infoO
  have hnews : ∀ j u, (opCells [x])[j]? = some u → w.cell? ((⟨b, 0, none⟩ : Addr).add j) = some u := by
    intro j u hu
    rw [Addr.add_lit]
    exact hx j u hu
  have h1 := opCells_one [x]
  have hl1 : (opCells [x]).length = 5 := rfl
  rcases hv with ⟨rfl, rfl⟩ | ⟨g, off, cap, cur, rfl, hb, hc1, hc2, hc3, hc4⟩
  · obtain ⟨v', w', r1, r2, r3, _, r5⟩ := run_append_own_at (P := Try.prog) w 0 22 ty 32 i0 _ 5 56 Try.underlying22 hi hz0 hz1 hz2 rfl (by decide) (.slice none 0 0) 0 [] (World.ownsRow_nil _ _ _ _) ⟨b, 0, none⟩ 1 c (opCells [x]) hl1 hnews h1 (by unfold maxLen; omega) (by omega) (Nat.zero_le _)
    refine ⟨v', w', r1, ?_, r3, r5⟩
    rcases r2.2 with ⟨_, h0⟩ | ⟨g, cap, cur, rfl, _, hb, q1, q2, q3, q4⟩
    · omega
    · exact .inr ⟨g, 0, cap, cur, rfl, hb, q1, by omega, q2, by simpa using q4⟩
  · by_cases hroom : l.length + 1 ≤ cap
    · have hf := run_firstCells_some (P := Try.prog) w i0.size 1 ⟨b, 0, none⟩ 1 c (opCells [x]) (by rw [hz1]; rfl) hnews
      have hst := run_storeCells_at Try.prog g (off + l.length * i0.size) 32 (opCells [x]) 0 cur w hb (by rw [hz1, hl1]; omega) h1
      simp only [Nat.add_zero] at hst
      have hr : (Builtin.append_ #[22, 22] ty #[.slice (some ⟨g, off, none⟩) l.length cap, .slice (some ⟨b, 0, none⟩) 1 c]).run Try.prog w = .ok (.slice (some ⟨g, off, none⟩) (l.length + 1) cap) (w.setRow g (cur.toList.take (off + l.length * i0.size) ++ opCells [x] ++ cur.toList.drop (off + l.length * i0.size + (opCells [x]).length)).toArray) := by
        simp [Builtin.append_, run_underlying Try.underlying22, sizeOf, typeInfo, hi, Builtin.lenOf, hroom] at hf hst ⊢
        simp [hf, Addr.add_lit, hst]
      rw [hz1] at hr
      have hl2 : (opCells l).length = l.length * 5 := opCells_length l
      refine ⟨_, _, hr, .inr ⟨g, off, cap, _, by simp, setRow_heap w g cur _ 32 _ hb, by simpa using hroom, ?_, hc3, ?_⟩, ⟨rfl, rfl, rfl, by simp, fun k _ hk => setRow_other w g k _ (fun e => hk (by simp [Value.ownBlock, e]))⟩, .inl rfl⟩
      · simp only [List.size_toArray, List.length_append, List.length_take, List.length_drop, Array.length_toList, hl1]
        omega
      · have e0 : cur.toList.take (off + l.length * 5) = cur.toList.take off ++ opCells l := by rw [List.take_add, hc4]
        have hlo : (cur.toList.take off).length = off := by rw [List.length_take, Array.length_toList]; omega
        rw [e0, opCells_append]
        simp only [List.append_assoc]
        rw [List.drop_left' hlo, ← List.append_assoc]
        exact List.take_left' (by rw [List.length_append, List.length_append, hl2, hl1]; simp; omega)
    · have holds : ∀ j u, (opCells l)[j]? = some u → w.cell? ((⟨g, off, none⟩ : Addr).add j) = some u := by
        intro j u hu
        rw [← hc4, List.getElem?_take] at hu
        split at hu
        · rw [List.getElem?_drop] at hu
          rw [Addr.add_lit]
          simp only [World.cell?, hb]
          simpa using hu
        · cases hu
      have hl2 : (opCells l).length = l.length * 5 := opCells_length l
      have hr := run_append_grow (P := Try.prog) w 22 ty 32 i0 _ Try.underlying22 hi hz0 ⟨g, off, none⟩ l.length cap (opCells l) (by rw [hz1]; exact hl2) holds ⟨b, 0, none⟩ 1 c (opCells [x]) (by rw [hz1]; rfl) hnews (by omega) (by omega) (growslice_fits (by omega) (by rw [hz2]; omega))
      have hge := grownCap_ge w (l.length + 1) cap 32
      have hcm : grownCap w (l.length + 1) cap 32 ≤ maxLen := grownCap_le_maxLen w (l.length + 1) cap 32 (by unfold maxLen; omega)
      refine ⟨_, _, hr, .inr ⟨w.heap.size, 0, _, _, by simp, heap_alloc_new w.drew _, by simpa using hge, ?_, hcm, ?_⟩, ⟨rfl, rfl, rfl, by simp, fun k hk _ => heap_alloc_old w.drew _ hk⟩, .inr rfl⟩
      · simp only [Array.size_append, List.size_toArray, size_zeroCells, hl2, hl1]
        have : (Value.agg #[.int .i64 0, .int .i64 0, .int .i64 0, .bool false, .slice none 0 0]).cells.size = 5 := rfl
        rw [this]
        omega
      · simp only [Array.toList_append, List.append_assoc, List.drop_zero]
        rw [← List.append_assoc, opCells_append]
        exact List.take_left' (by rw [List.length_append, hl2, hl1]; simp; omega)

/-- An append of one onto such a row, as a law of the walk. -/
theorem wpList_append_wq {ops : Array Oper} {rest : List Oper} {o : Oper} {a : Act} {Q : Exit → Act → World → Prop} {w : World} (hgd : o.guard = none) (s x : Operand)
    (ho : o.op = .call { callee := .builtin .append, args := #[s, x], argTypes := #[22, 22] })
    (v : Value) (l : List Opn) (y : Opn) (b c : Nat) (hs : a.eval s = v) (hv : Wq w v l) (hx : a.eval x = .slice (some ⟨b, 0, none⟩) 1 c) (hc : ∀ j u, (opCells [y])[j]? = some u → w.cell? ⟨b, 0 + j, none⟩ = some u) (hlen : l.length + 1 ≤ 1000000)
    (h : ∀ v' w', Wq w' v' (l ++ [y]) → w.grownBy w' v.ownBlock → (v'.ownBlock = v.ownBlock ∨ v'.ownBlock = some w.heap.size) → wpList Try.prog ops Q rest (a.put o.dst v') w') :
    wpList Try.prog ops Q (o :: rest) a w := by
  refine wpList_plain hgd fun K hK => ?_
  obtain ⟨v', w', hr, h2, h3, h4⟩ := run_append_wq o.type w v l y b c hv hc hlen
  unfold Oper.wp execOp
  simp only [ho, resolve, invoke, builtin, Sem.run_bind, Sem.run_pure, Result.andThen_ok, List.map_toArray, List.map_cons, List.map_nil, hs, hx, hr]
  exact hK _ _ (h v' w' h2 h3 h4)
end Go.Proofs.Ytefbfjlmhfmiiaa
