/-
  LaneFair: the table of waits in memory; the lengths of the lanes; the loop behind a taking.
-/
import Derived.Test.YthaoobfldponpaaLf
import Derived.Test.YthaoobfldponpaaSm
namespace Go.Proofs.Ythaoobfldponpaa
open Go.RowKit
set_option linter.unusedVariables false

/-- Block m holds n rows of n numbers, each in a block of its own. -/
structure Tb (N : Nat) (S : Nat → Prop) (w : World) (m n : Nat) (gs : Nat → Nat) (wt : Nat → Nat → Nat) : Prop where
  hm : ∃ cs, w.heap[m]? = some (.cells cs 26 (0, 0)) ∧ ∀ i, i < n → cs[i]? = some (.slice (some ⟨gs i, 0, none⟩) n n)
  rows : ∀ i, i < n → ∃ cs, w.heap[gs i]? = some (.cells cs 3 (0, 0)) ∧ cs.size = n ∧ ∀ j, j < n → cs[j]? = some (.int .i64 (wt i j : Int))
  ap : ∀ i j, i < n → j < n → i ≠ j → gs i ≠ gs j
  Sm : S m
  Sg : ∀ i, i < n → S (gs i)
  inn : ∀ i, S i → i < w.heap.size
  fr : ∀ i, S i → N ≤ i
theorem Tb.out {N : Nat} {S X : Nat → Prop} {w w' : World} {m n : Nat} {gs : Nat → Nat} {wt : Nat → Nat → Nat} (h : Tb N S w m n gs wt) (hO : Out X w w') (hx : ∀ i, S i → ¬ X i) : Tb N S w' m n gs wt := by
  obtain ⟨cs, hc, hr⟩ := h.hm
  exact ⟨⟨cs, (hO.block m (h.inn _ h.Sm) (hx _ h.Sm)).trans hc, hr⟩, fun i hi => by
    obtain ⟨cs, hc, r⟩ := h.rows i hi
    exact ⟨cs, (hO.block _ (h.inn _ (h.Sg i hi)) (hx _ (h.Sg i hi))).trans hc, r⟩, h.ap, h.Sm, h.Sg, fun i hi => Nat.lt_of_lt_of_le (h.inn i hi) hO.size, h.fr⟩
theorem Tb.below {N : Nat} {S : Nat → Prop} {w w' : World} {m n : Nat} {gs : Nat → Nat} {wt : Nat → Nat → Nat} (h : Tb N S w m n gs wt) (hB : Below w.heap.size w w') : Tb N S w' m n gs wt :=
  h.out (X := fun _ => False) (Out.of_below hB) (fun _ _ hf => hf)
theorem Tb.cell {N : Nat} {S : Nat → Prop} {w : World} {m n : Nat} {gs : Nat → Nat} {wt : Nat → Nat → Nat} (h : Tb N S w m n gs wt) {i j : Nat} (hi : i < n) (hj : j < n) : w.cell? ⟨m, i, none⟩ = some (.slice (some ⟨gs i, 0, none⟩) n n) ∧ w.cell? ⟨gs i, j, none⟩ = some (.int .i64 (wt i j : Int)) ∧ w.frozen? ⟨gs i, j, none⟩ = false := by
  obtain ⟨cs, hc, hr⟩ := h.hm
  obtain ⟨cs2, hc2, -, hr2⟩ := h.rows i hi
  refine ⟨?_, ?_, ?_⟩
  · simp only [World.cell?, hc]; exact hr i hi
  · simp only [World.cell?, hc2]; exact hr2 j hj
  · simp [World.frozen?, hc2]
def upd2 (wt : Nat → Nat → Nat) (i j v : Nat) : Nat → Nat → Nat := fun a b => if a = i ∧ b = j then v else wt a b
/-- One number is written. -/
theorem Tb.set {N : Nat} {S : Nat → Prop} {w : World} {m n : Nat} {gs : Nat → Nat} {wt : Nat → Nat → Nat} (h : Tb N S w m n gs wt) {i j : Nat} (hi : i < n) (hj : j < n) (v : Nat) : Tb N S (w.setCell ⟨gs i, j, none⟩ (.int .i64 (v : Int))) m n gs (upd2 wt i j v) ∧ Out S w (w.setCell ⟨gs i, j, none⟩ (.int .i64 (v : Int))) := by
  obtain ⟨cs, hc, hr⟩ := h.hm
  obtain ⟨cs2, hc2, hn2, hr2⟩ := h.rows i hi
  have hO : Out (fun k => k = gs i) w (w.setCell ⟨gs i, j, none⟩ (.int .i64 (v : Int))) := Out.set rfl
  have hmg : m ≠ gs i := fun e => by rw [e, hc2] at hc; simp at hc
  refine ⟨⟨⟨cs, (hO.block m (h.inn _ h.Sm) hmg).trans hc, hr⟩, fun i' hi' => ?_, h.ap, h.Sm, h.Sg, fun k hk => by rw [size_set]; exact h.inn k hk, h.fr⟩, hO.mono (fun k hk => by rw [hk]; exact h.Sg i hi)⟩
  by_cases e : i' = i
  · subst e
    refine ⟨cs2.setIfInBounds j (.int .i64 (v : Int)), heap_set hc2 j _, by simpa using hn2, fun j' hj' => ?_⟩
    by_cases ej : j' = j
    · subst ej
      rw [Array.getElem?_setIfInBounds_self_of_lt (by omega)]
      simp [upd2]
    · rw [Array.getElem?_setIfInBounds_ne (fun e' => ej e'.symm), hr2 j' hj']
      simp [upd2, ej]
  · obtain ⟨cs3, hc3, hn3, hr3⟩ := h.rows i' hi'
    refine ⟨cs3, (hO.block _ (h.inn _ (h.Sg i' hi')) (h.ap i' i hi' hi e)).trans hc3, hn3, fun j' hj' => ?_⟩
    rw [hr3 j' hj']
    simp [upd2, e]
theorem Tb.same {N : Nat} {S : Nat → Prop} {w : World} {m n : Nat} {gs : Nat → Nat} {wt wt' : Nat → Nat → Nat} (h : Tb N S w m n gs wt) (he : ∀ a b, a < n → b < n → wt a b = wt' a b) : Tb N S w m n gs wt' :=
  ⟨h.hm, fun i hi => by
    obtain ⟨cs, hc, hn, hr⟩ := h.rows i hi
    exact ⟨cs, hc, hn, fun j hj => by rw [hr j hj, he i j hi hj]⟩, h.ap, h.Sm, h.Sg, h.inn, h.fr⟩

/-- Lanes beside the table. -/
structure LT (N : Nat) (S S' : Nat → Prop) (w : World) (d m n room nx : Nat) (gs : Nat → Nat) (ls : Nat → List Int) (wt : Nat → Nat → Nat) : Prop where
  la : La N S w d n room nx ls
  tb : Tb N S' w m n gs wt
  ap : ∀ i, S i → ¬ S' i
theorem LT.one {N : Nat} {S S' : Nat → Prop} {w w1 : World} {d m n room nx n2 : Nat} {gs : Nat → Nat} {ls l2 : Nat → List Int} {wt : Nat → Nat → Nat} (h : LT N S S' w d m n room nx gs ls wt) (t : LTh N S w w1 d n room n2 l2) : LT N (grew S w w1) S' w1 d m n room n2 gs l2 wt :=
  ⟨t.q, h.tb.out t.out (fun i hi hs => h.ap i hs hi), fun i hi hs => hi.elim (fun h1 => h.ap i h1 hs) (fun h2 => by have := h.tb.inn i hs; omega)⟩
theorem LT.set {N : Nat} {S S' : Nat → Prop} {w : World} {d m n room nx : Nat} {gs : Nat → Nat} {ls : Nat → List Int} {wt : Nat → Nat → Nat} (h : LT N S S' w d m n room nx gs ls wt) {i j : Nat} (hi : i < n) (hj : j < n) (v : Nat) : LT N S S' (w.setCell ⟨gs i, j, none⟩ (.int .i64 (v : Int))) d m n room nx gs ls (upd2 wt i j v) :=
  ⟨h.la.out (h.tb.set hi hj v).2 (fun k hk hs => h.ap k hk hs), (h.tb.set hi hj v).1, h.ap⟩
theorem LT.below {N : Nat} {S S' : Nat → Prop} {w w1 : World} {d m n room nx : Nat} {gs : Nat → Nat} {ls : Nat → List Int} {wt : Nat → Nat → Nat} (h : LT N S S' w d m n room nx gs ls wt) (hB : Below w.heap.size w w1) : LT N S S' w1 d m n room nx gs ls wt := ⟨h.la.below hB, h.tb.below hB, h.ap⟩
theorem LT.same {N : Nat} {S S' : Nat → Prop} {w : World} {d m n room nx : Nat} {gs : Nat → Nat} {ls : Nat → List Int} {wt wt' : Nat → Nat → Nat} (h : LT N S S' w d m n room nx gs ls wt) (he : ∀ a b, a < n → b < n → wt a b = wt' a b) : LT N S S' w d m n room nx gs ls wt' := ⟨h.la, h.tb.same he, h.ap⟩

/-- A row of zeros that make lays. -/
theorem run_row (n : Nat) (hn : n ≤ 64) (w : World) : ∃ cs : Array Value, cs.size = n ∧ (∀ j, j < n → cs[j]? = some (.int .i64 0)) ∧ (Instr.makeSlice 26 (.int .i64 (n : Int)) (.int .i64 (n : Int))).run Try.prog w = .ok (.slice (some ⟨w.heap.size, 0, none⟩) n n) (w.alloc (.cells cs 3)) := by
  obtain ⟨i0, hi, hz0, hz1, hz2⟩ := info_parts info
  have h := run_make (P := Try.prog) w 26 3 i0 (.int .i64 0) Try.underlying26 hi hz0 .i64 .i64 n n (by omega) (by omega) (by rw [hz2]; omega) (by omega)
  rw [hz1] at h
  simp only [Int.toNat_natCast, Nat.mul_one] at h
  refine ⟨_, size_madeCells _ _, fun j hj => ?_, h⟩
  simp [madeCells, Value.cells, hj, Nat.mod_one]

/-- k rows are made. -/
structure Tm (w : World) (n k : Nat) (wr : World) : Prop where
  bel : Below (w.heap.size + 1) w wr ∨ True
  os : Below w.heap.size w wr
  sz : wr.heap.size = w.heap.size + 1 + k
  hc : ∃ cs : Array Value, wr.heap[w.heap.size]? = some (.cells cs 26 (0, 0)) ∧ cs.size = n ∧ ∀ j, j < k → cs[j]? = some (.slice (some ⟨w.heap.size + 1 + j, 0, none⟩) n n)
  rw_ : ∀ j, j < k → ∃ cs, wr.heap[w.heap.size + 1 + j]? = some (.cells cs 3 (0, 0)) ∧ cs.size = n ∧ ∀ j, j < n → cs[j]? = some (.int .i64 0)
theorem Tm.step {w wr : World} {n k : Nat} {cs0 : Array Value} (h : Tm w n k wr) (hk : k < n) (h1 : cs0.size = n) (h2 : ∀ j, j < n → cs0[j]? = some (.int .i64 0)) : Tm w n (k + 1) ((wr.alloc (.cells cs0 3)).setCell ⟨w.heap.size, k, none⟩ (.slice (some ⟨wr.heap.size, 0, none⟩) n n)) := by
  obtain ⟨cs, hc, hn, hp⟩ := h.hc
  have hlt : w.heap.size < wr.heap.size := by rw [h.sz]; omega
  have hB1 : Below wr.heap.size wr (wr.alloc (.cells cs0 3)) := (Below.refl _ _).alloc (Nat.le_refl _) _
  have hc1 : (wr.alloc (.cells cs0 3)).heap[w.heap.size]? = some (.cells cs 26 (0, 0)) := (hB1.block _ hlt).trans hc
  have hO : Out (fun k => k = w.heap.size) (wr.alloc (.cells cs0 3)) ((wr.alloc (.cells cs0 3)).setCell ⟨w.heap.size, k, none⟩ (.slice (some ⟨wr.heap.size, 0, none⟩) n n)) := Out.set rfl
  have hsz1 : (wr.alloc (.cells cs0 3)).heap.size = wr.heap.size + 1 := by simp
  refine ⟨.inr trivial, ?_, ?_, ⟨cs.setIfInBounds k (.slice (some ⟨wr.heap.size, 0, none⟩) n n), heap_set hc1 _ _, by simpa using hn, ?_⟩, ?_⟩
  · exact h.os.trans ((hB1.mono (by omega)).trans (hO.below (by omega) (fun k hk => by omega)))
  · rw [size_set, hsz1, h.sz]; omega
  · intro j hj
    by_cases e : j = k
    · subst e
      rw [Array.getElem?_setIfInBounds_self_of_lt (by omega), h.sz]
    · rw [Array.getElem?_setIfInBounds_ne (fun e' => e e'.symm)]
      exact hp j (by omega)
  · intro j hj
    rw [hO.block _ (by rw [hsz1, h.sz]; omega) (by omega)]
    by_cases e : j = k
    · subst e
      rw [← h.sz]
      exact ⟨cs0, heap_alloc_new wr _, h1, h2⟩
    · rw [hB1.block _ (by rw [h.sz]; omega)]
      exact h.rw_ j (by omega)
theorem Tm.tb {w wr : World} {n N : Nat} (h : Tm w n n wr) (hN : N ≤ w.heap.size) : Tb N (fun i => w.heap.size ≤ i ∧ i < w.heap.size + 1 + n) wr w.heap.size n (fun i => w.heap.size + 1 + i) (fun _ _ => 0) := by
  obtain ⟨cs, hc, -, hp⟩ := h.hc
  have hsz := h.sz
  exact ⟨⟨cs, hc, hp⟩, fun i hi => by
    obtain ⟨c2, e1, e2, e3⟩ := h.rw_ i hi
    exact ⟨c2, e1, e2, fun j hj => by rw [e3 j hj]; rfl⟩, fun i j hi hj hne e => hne (by omega), ⟨by omega, by omega⟩, fun i hi => ⟨by omega, by omega⟩, fun i hi => by omega, fun i hi => by omega⟩

/-- The table behind the loop's first k rounds. -/
def wk (ls : Nat → List Int) (J k : Nat) (wt : Nat → Nat → Nat) : Nat → Nat → Nat := fun a b => if b = J then (if a < k then 0 else wt a b) else if a = J ∧ b < k ∧ ls b ≠ [] then wt a b + 1 else wt a b
theorem wk_zero (ls : Nat → List Int) (J : Nat) (wt : Nat → Nat → Nat) : wk ls J 0 wt = wt := by
  funext a b
  unfold wk
  split
  · simp
  · simp
theorem wk_end {ls : Nat → List Int} {J n : Nat} {wt : Nat → Nat → Nat} (h0 : ∀ b, b < n → ls b ≠ [] → wt J b = 0) : ∀ a b, a < n → b < n → wk ls J n wt a b = wtake ls J wt a b := fun a b ha hb => by
  unfold wk wtake
  by_cases e : b = J
  · simp [e, ha]
  · rw [if_neg e, if_neg e]
    by_cases ea : a = J ∧ ls b ≠ []
    · rw [if_pos ⟨ea.1, hb, ea.2⟩, if_pos ea, ea.1, h0 b hb ea.2]
    · rw [if_neg ea, if_neg (fun h => ea ⟨h.1, h.2.2⟩)]
/-- Round k: the column, then the row. -/
theorem wk_col {ls : Nat → List Int} {J k : Nat} {wt : Nat → Nat → Nat} : ∀ a b, upd2 (wk ls J k wt) k J 0 a b = if b = J then (if a < k + 1 then 0 else wt a b) else wk ls J k wt a b := fun a b => by
  unfold upd2 wk
  by_cases e : b = J
  · subst e
    by_cases ea : a = k
    · subst ea; simp
    · simp only [ea, false_and, if_false, if_true]
      by_cases h : a < k
      · rw [if_pos h, if_pos (by omega)]
      · rw [if_neg h, if_neg (by omega)]
  · simp [e]
theorem wk_skip {ls : Nat → List Int} {J k : Nat} {wt : Nat → Nat → Nat} (h : k = J ∨ ls k = []) : upd2 (wk ls J k wt) k J 0 = wk ls J (k + 1) wt := by
  funext a b
  rw [wk_col]
  unfold wk
  by_cases e : b = J
  · simp [e]
  · rw [if_neg e, if_neg e]
    by_cases ea : a = J ∧ b < k ∧ ls b ≠ []
    · rw [if_neg e, if_pos ea, if_pos ⟨ea.1, by omega, ea.2.2⟩]
    · rw [if_neg e, if_neg ea, if_neg]
      rintro ⟨h1, h2, h3⟩
      by_cases hb : b = k
      · rcases h with h | h
        · exact e (by omega)
        · rw [hb] at h3; exact h3 h
      · exact ea ⟨h1, by omega, h3⟩
theorem wk_row {ls : Nat → List Int} {J k : Nat} {wt : Nat → Nat → Nat} (hk : k ≠ J) (hl : ls k ≠ []) (h0 : wt J k = 0) : upd2 (upd2 (wk ls J k wt) k J 0) J k 1 = wk ls J (k + 1) wt := by
  funext a b
  unfold upd2
  by_cases e2 : a = J ∧ b = k
  · rw [if_pos e2]
    unfold wk
    rw [if_neg (by rw [e2.2]; exact hk), if_pos ⟨e2.1, by omega, by rw [e2.2]; exact hl⟩, e2.1, e2.2, h0]
  · rw [if_neg e2]
    have := wk_col (ls := ls) (J := J) (k := k) (wt := wt) a b
    unfold upd2 at this
    rw [this]
    unfold wk
    by_cases e : b = J
    · simp [e]
    · rw [if_neg e, if_neg e, if_neg e]
      by_cases ea : a = J ∧ b < k ∧ ls b ≠ []
      · rw [if_pos ea, if_pos ⟨ea.1, by omega, ea.2.2⟩]
      · rw [if_neg ea, if_neg]
        rintro ⟨h1, h2, h3⟩
        by_cases hb : b = k
        · exact e2 ⟨h1, hb⟩
        · exact ea ⟨h1, by omega, h3⟩
theorem wk_at {ls : Nat → List Int} {J k : Nat} {wt : Nat → Nat → Nat} (hk : k ≠ J) : upd2 (wk ls J k wt) k J 0 J k = wt J k := by
  rw [wk_col, if_neg hk]
  unfold wk
  rw [if_neg hk, if_neg (fun h => by omega)]

end Go.Proofs.Ythaoobfldponpaa
