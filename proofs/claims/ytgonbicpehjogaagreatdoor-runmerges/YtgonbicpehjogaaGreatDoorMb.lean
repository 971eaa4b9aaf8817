/-
  Acts and lists of acts in memory; rows of them that are made.
-/
import Derived.Test.YtgonbicpehjogaaGreatDoorMp
namespace Go.Proofs.YtgonbicpehjogaaGreatDoor
open Go.RowKit
set_option linter.unusedVariables false

/-- An act at a place. -/
structure AcAt (M : Nat) (w : World) (b o : Nat) (x : Ac) (d : Value) : Prop where
  dat : Sl M w d x.data
  c0 : w.cell? ⟨b, o, none⟩ = some (.int .i64 x.kind)
  c1 : w.cell? ⟨b, o + 1, none⟩ = some (.int .i64 x.n)
  c2 : w.cell? ⟨b, o + 2, none⟩ = some d
  c3 : w.cell? ⟨b, o + 3, none⟩ = some (.int .i64 x.id)
  c4 : w.cell? ⟨b, o + 4, none⟩ = some (.int .i64 x.op)
  c5 : w.cell? ⟨b, o + 5, none⟩ = some (.int .i64 x.cl)
  c6 : w.cell? ⟨b, o + 6, none⟩ = some (.int .i64 x.sq)
  c7 : w.cell? ⟨b, o + 7, none⟩ = some (.string x.key)
  c8 : w.cell? ⟨b, o + 8, none⟩ = some (.string x.val)
  c9 : w.cell? ⟨b, o + 9, none⟩ = some (.string x.old)
theorem AcAt.below {M : Nat} {w w' : World} {b o : Nat} {x : Ac} {d : Value} (h : AcAt M w b o x d) (hb : b < M) (hB : Below M w w') : AcAt M w' b o x d :=
  ⟨h.dat.below hB, (hB.cell hb).trans h.c0, (hB.cell hb).trans h.c1, (hB.cell hb).trans h.c2, (hB.cell hb).trans h.c3, (hB.cell hb).trans h.c4, (hB.cell hb).trans h.c5, (hB.cell hb).trans h.c6, (hB.cell hb).trans h.c7, (hB.cell hb).trans h.c8, (hB.cell hb).trans h.c9⟩
/-- Acts in a row. -/
def ActsAt (M : Nat) (w : World) (a : Option Addr) (l : List Ac) : Prop := l = [] ∨ ∃ b off, a = some ⟨b, off, none⟩ ∧ b < M ∧ ∀ i, i < l.length → ∃ d, AcAt M w b (off + i * 10) (aat l i) d
theorem ActsAt.below {M : Nat} {w w' : World} {a : Option Addr} {l : List Ac} (h : ActsAt M w a l) (hB : Below M w w') : ActsAt M w' a l := by
  rcases h with h | ⟨b, off, h1, h2, h3⟩
  · exact .inl h
  · exact .inr ⟨b, off, h1, h2, fun i hi => by obtain ⟨d, hd⟩ := h3 i hi; exact ⟨d, hd.below h2 hB⟩⟩
theorem ActsAt.up {M M' : Nat} {w : World} {a : Option Addr} {l : List Ac} (h : ActsAt M w a l) (hM : M ≤ M') : ActsAt M' w a l := by
  rcases h with h | ⟨b, off, h1, h2, h3⟩
  · exact .inl h
  · exact .inr ⟨b, off, h1, by omega, fun i hi => by
      obtain ⟨d, hd⟩ := h3 i hi
      exact ⟨d, hd.dat.mono hM, hd.c0, hd.c1, hd.c2, hd.c3, hd.c4, hd.c5, hd.c6, hd.c7, hd.c8, hd.c9⟩⟩
theorem ActsAt.drop {M : Nat} {w : World} {b off : Nat} {l : List Ac} (h : ActsAt M w (some ⟨b, off, none⟩) l) : ActsAt M w (some ⟨b, off + 10, none⟩) (l.drop 1) := by
  rcases h with h | ⟨b', off', h1, h2, h3⟩
  · exact .inl (by rw [h]; rfl)
  · cases h1
    refine .inr ⟨b, off + 10, rfl, h2, fun i hi => ?_⟩
    rw [List.length_drop] at hi
    obtain ⟨d, hd⟩ := h3 (i + 1) (by omega)
    have e : aat (l.drop 1) i = aat l (i + 1) := by unfold aat; rw [List.getD_eq_getElem?_getD, List.getElem?_drop, List.getD_eq_getElem?_getD, Nat.add_comm 1 i]
    rw [show off + (i + 1) * 10 = off + 10 + i * 10 by omega, ← e] at hd
    exact ⟨d, hd⟩
/-- A list of acts at a place. -/
def LAt (M : Nat) (w : World) (v : Value) (l : List Ac) : Prop := ∃ a c, v = .slice a l.length c ∧ l.length ≤ c ∧ c ≤ maxLen ∧ ActsAt M w a l
theorem LAt.below {M : Nat} {w w' : World} {v : Value} {l : List Ac} (h : LAt M w v l) (hB : Below M w w') : LAt M w' v l := by
  obtain ⟨a, c, h1, h2, h3, h4⟩ := h
  exact ⟨a, c, h1, h2, h3, h4.below hB⟩
/-- Lists of acts in a row. -/
def LsAt (M : Nat) (w : World) (ok : Nat → Prop) (a : Option Addr) (ls : List (List Ac)) : Prop := ls = [] ∨ ∃ b off, a = some ⟨b, off, none⟩ ∧ b < w.heap.size ∧ ok b ∧ ∀ i, i < ls.length → ∃ v, w.cell? ⟨b, off + i, none⟩ = some v ∧ LAt M w v (lat ls i)
theorem LsAt.out {M : Nat} {w w' : World} {ok ok' X : Nat → Prop} {a : Option Addr} {ls : List (List Ac)} (h : LsAt M w ok a ls) (hO : Out X w w') (hB : Below M w w') (hX : ∀ b, b < w.heap.size → ok b → ¬ X b) (hk : ∀ b, b < w.heap.size → ok b → ok' b) : LsAt M w' ok' a ls := by
  rcases h with h | ⟨b, off, h1, h2, h3, h4⟩
  · exact .inl h
  · refine .inr ⟨b, off, h1, by have := hO.size; omega, hk b h2 h3, fun i hi => ?_⟩
    obtain ⟨v, hv, hl⟩ := h4 i hi
    refine ⟨v, ?_, hl.below hB⟩
    rw [← hv]
    simp only [World.cell?, hO.block b h2 (hX b h2 h3)]

/-- The cells of acts whose data lie so. -/
def mrow : List Ac → List Value → List Value
  | x :: l, d :: ds => (x.cells d).toList ++ mrow l ds
  | _, _ => []
theorem mrow_len {l : List Ac} {ds : List Value} (h : ds.length = l.length) : (mrow l ds).length = l.length * 10 := by
  induction l generalizing ds with
  | nil => cases ds <;> rfl
  | cons x l ih =>
    cases ds with
    | nil => simp at h
    | cons d ds => simp only [mrow, List.length_append, List.length_cons] at h ⊢; rw [ih (by omega)]; simp [Ac.cells]; omega
theorem mrow_snoc {l : List Ac} {ds : List Value} (h : ds.length = l.length) (x : Ac) (d : Value) : mrow (l ++ [x]) (ds ++ [d]) = mrow l ds ++ (x.cells d).toList := by
  induction l generalizing ds with
  | nil => cases ds with | nil => simp [mrow] | cons d ds => simp at h
  | cons y l ih =>
    cases ds with
    | nil => simp at h
    | cons e ds => simp only [List.cons_append, mrow, List.append_assoc]; rw [ih (by simpa using h)]
theorem mrow_get {l : List Ac} {ds : List Value} (h : ds.length = l.length) {i : Nat} (hi : i < l.length) {j : Nat} (hj : j < 10) : (mrow l ds).getD (i * 10 + j) undef = ((aat l i).cells (ds.getD i undef)).getD j undef := by
  induction l generalizing ds i with
  | nil => simp at hi
  | cons y l ih =>
    cases ds with
    | nil => simp at h
    | cons e ds =>
      simp only [mrow]
      cases i with
      | zero =>
        rw [List.getD_eq_getElem?_getD, List.getElem?_append_left (by simp [Ac.cells]; omega)]
        simp [aat]
      | succ i =>
        rw [List.getD_eq_getElem?_getD, List.getElem?_append_right (by simp [Ac.cells]; omega)]
        have := ih (ds := ds) (by simpa using h) (i := i) (by simpa using hi)
        rw [List.getD_eq_getElem?_getD] at this
        rw [show (i + 1) * 10 + j - ((y.cells e).toList).length = i * 10 + j by simp [Ac.cells]; omega, this]
        simp [aat]

/-- Acts of the call's own, their data too. -/
structure MgD (N : Nat) (w : World) (v : Value) (l : List Ac) (ds : List Value) : Prop where
  len : ds.length = l.length
  row : w.ownsRow N 31 10 v l.length (mrow l ds)
  dat : ∀ i, i < l.length → Ow N w (ds.getD i undef) (aat l i).data
theorem MgD.nil (N : Nat) (w : World) : MgD N w (.slice none 0 0) [] [] := ⟨rfl, World.ownsRow_nil _ _ _ _, fun i hi => by simp at hi⟩
theorem row_type {N τ sz : Nat} {w : World} {v : Value} {n : Nat} {xs : List Value} (h : w.ownsRow N τ sz v n xs) {g : Nat} (hg : v.ownBlock = some g) : N ≤ g ∧ g < w.heap.size ∧ ∃ cs, w.heap[g]? = some (.cells cs τ (0, 0)) := by
  rcases h.2 with ⟨rfl, _⟩ | ⟨g', cap, cur, rfl, h1, h2, _⟩
  · simp [Value.ownBlock] at hg
  · obtain rfl : g' = g := by simpa [Value.ownBlock] using hg
    exact ⟨h1, (Array.getElem?_eq_some_iff.1 h2).1, _, h2⟩
/-- Blocks that are of one type. -/
def OfT (τ : TypeId) (w : World) (X : Nat → Prop) : Prop := ∀ g, X g → g < w.heap.size → ∃ cs z, w.heap[g]? = some (.cells cs τ z)
theorem row_apart {N τ τ' sz : Nat} {w w' : World} {X : Nat → Prop} {v : Value} {n : Nat} {xs : List Value} (h : w.ownsRow N τ sz v n xs) (hO : Out X w w') (hX : OfT τ' w X) (ht : τ ≠ τ') : w'.ownsRow N τ sz v n xs :=
  row_out h hO (fun g hg hx => by
    obtain ⟨-, h1, cs, h2⟩ := row_type h hg
    obtain ⟨cs', z, h3⟩ := hX g hx h1
    rw [h2] at h3
    simp at h3
    exact ht h3.2.1)
theorem ofT_row {N τ sz : Nat} {w : World} {v : Value} {n : Nat} {xs : List Value} (h : w.ownsRow N τ sz v n xs) : OfT τ w (fun g => v.ownBlock = some g) := fun g hg _ => by
  obtain ⟨-, -, cs, h1⟩ := row_type h hg
  exact ⟨cs, _, h1⟩
theorem out_app {w w1 w2 : World} {o : Obj} {row : Option Nat} (hB : Below w.heap.size w w1) (h : (w1.alloc o).grownBy w2 row) : Out (fun g => row = some g) w w2 :=
  ((Out.of_below (X := fun g => row = some g) hB).alloc o).trans (Y := fun g => row = some g) ⟨h.os, h.tape, h.output, h.size, fun i hi hx => h.block i hi (fun e => hx e.symm)⟩ (fun i hi _ => hi)
theorem MgD.out {N τ : Nat} {w w' : World} {X : Nat → Prop} {v : Value} {l : List Ac} {ds : List Value} (h : MgD N w v l ds) (hO : Out X w w') (hX : OfT τ w X) (h31 : 31 ≠ τ) (h5 : 5 ≠ τ) : MgD N w' v l ds :=
  ⟨h.len, row_apart h.row hO hX h31, fun i hi => row_apart (h.dat i hi) hO hX h5⟩
theorem aat_left {l m : List Ac} {i : Nat} (h : i < l.length) : aat (l ++ m) i = aat l i := by unfold aat; rw [List.getD_eq_getElem?_getD, List.getElem?_append_left h, List.getD_eq_getElem?_getD]
theorem aat_last (l : List Ac) (x : Ac) : aat (l ++ [x]) l.length = x := by unfold aat; simp
/-- One act more. -/
theorem MgD.next {N : Nat} {w w' : World} {X : Nat → Prop} {v v' d : Value} {l : List Ac} {ds : List Value} {x : Ac} (h : MgD N w v l ds) (hO : Out X w w') (hX : OfT 31 w X) (hd : Ow N w' d x.data) (hr : w'.ownsRow N 31 10 v' (l.length + 1) (mrow l ds ++ (x.cells d).toList)) : MgD N w' v' (l ++ [x]) (ds ++ [d]) := by
  refine ⟨by simp [h.len], by rw [mrow_snoc h.len, List.length_append]; exact hr, fun i hi => ?_⟩
  rw [List.length_append, List.length_singleton] at hi
  by_cases e : i < l.length
  · rw [aat_left e, List.getD_eq_getElem?_getD, List.getElem?_append_left (by rw [h.len]; exact e), ← List.getD_eq_getElem?_getD]
    exact row_apart (h.dat i e) hO hX (by decide)
  · obtain rfl : i = l.length := by omega
    rw [aat_last, ← h.len]
    simpa using hd
/-- Acts of the call's own are acts in a row. -/
theorem MgD.acts {N M : Nat} {w : World} {a : Option Addr} {c : Nat} {l : List Ac} {ds : List Value} (h : MgD N w (.slice a l.length c) l ds) (hM : w.heap.size ≤ M) : ActsAt M w a l := by
  rcases Nat.eq_zero_or_pos l.length with e | e
  · exact .inl (List.length_eq_zero_iff.1 e)
  · obtain ⟨g, rfl, -, hg⟩ := row_ptr h.row e
    refine .inr ⟨g, 0, rfl, by omega, fun i hi => ⟨ds.getD i undef, ?_⟩⟩
    have key : ∀ j, j < 10 → w.cell? ⟨g, 0 + i * 10 + j, none⟩ = some (((aat l i).cells (ds.getD i undef)).getD j undef) := fun j hj => by
      rw [Nat.zero_add, (row_cell h.row (by omega)).1, mrow_get h.len hi hj]
    exact ⟨(h.dat i hi).sl hM, key 0 (by omega), key 1 (by omega), key 2 (by omega), key 3 (by omega), key 4 (by omega), key 5 (by omega), key 6 (by omega), key 7 (by omega), key 8 (by omega), key 9 (by omega)⟩

/-- Lists of the call's own. -/
def Rst (M B : Nat) (w : World) (v : Value) (ls : List (List Ac)) (xs : List Value) : Prop := w.ownsRow B 24 1 v ls.length xs ∧ ∀ i, i < ls.length → LAt M w (xs.getD i undef) (lat ls i)
theorem Rst.nil (M B : Nat) (w : World) : Rst M B w (.slice none 0 0) [] [] := ⟨World.ownsRow_nil _ _ _ _, fun i hi => by simp at hi⟩
theorem Rst.out {M B τ : Nat} {w w' : World} {X : Nat → Prop} {v : Value} {ls : List (List Ac)} {xs : List Value} (h : Rst M B w v ls xs) (hO : Out X w w') (hB : Below M w w') (hX : OfT τ w X) (ht : 24 ≠ τ) : Rst M B w' v ls xs :=
  ⟨row_apart h.1 hO hX ht, fun i hi => (h.2 i hi).below hB⟩
theorem Rst.next {M B : Nat} {w w' : World} {v v' u : Value} {ls : List (List Ac)} {xs : List Value} {l : List Ac} (h : Rst M B w v ls xs) (hB : Below M w w') (hu : LAt M w' u l) (hr : w'.ownsRow B 24 1 v' (ls.length + 1) (xs ++ [u])) : Rst M B w' v' (ls ++ [l]) (xs ++ [u]) := by
  have hx : xs.length = ls.length := by rw [h.1.1]; omega
  refine ⟨by rw [List.length_append]; exact hr, fun i hi => ?_⟩
  rw [List.length_append, List.length_singleton] at hi
  by_cases e : i < ls.length
  · have e1 : lat (ls ++ [l]) i = lat ls i := by unfold lat; rw [List.getD_eq_getElem?_getD, List.getElem?_append_left e, List.getD_eq_getElem?_getD]
    rw [e1, List.getD_eq_getElem?_getD, List.getElem?_append_left (by omega), ← List.getD_eq_getElem?_getD]
    exact (h.2 i e).below hB
  · obtain rfl : i = ls.length := by omega
    have e1 : lat (ls ++ [l]) ls.length = l := by unfold lat; simp
    rw [e1, ← hx]
    simpa using hu
theorem Rst.ls {M B : Nat} {w : World} {a : Option Addr} {c : Nat} {ls : List (List Ac)} {xs : List Value} {ok : Nat → Prop} (h : Rst M B w (.slice a ls.length c) ls xs) (hok : ∀ g, (Value.slice a ls.length c).ownBlock = some g → ok g) : LsAt M w ok a ls := by
  rcases Nat.eq_zero_or_pos ls.length with e | e
  · exact .inl (List.length_eq_zero_iff.1 e)
  · obtain ⟨g, rfl, -, hg⟩ := row_ptr h.1 e
    refine .inr ⟨g, 0, rfl, hg, hok g rfl, fun i hi => ⟨_, ?_, h.2 i hi⟩⟩
    rw [Nat.zero_add]
    exact (row_cell h.1 (by omega)).1
/-- A round of Merge's inner loop, in memory. -/
theorem merge_step {N B : Nat} {w w1 w6 w7 : World} {o o' : Obj} {v6 v7 d' u vb vr : Value} {GM L' : List Ac} {ds' xs' : List Value} {RM L : List (List Ac)} {x : Ac} {a : Option Addr}
    (HM : MgD N w vb GM ds') (HR : Rst N B w vr RM xs') (HL : LsAt N w (fun b => vb.ownBlock ≠ some b ∧ b < B) a L) (hN : N ≤ w.heap.size) (hNB : N ≤ B) (hB : B ≤ w.heap.size)
    (HO1 : Ow w.heap.size w1 d' x.data) (HB1 : Below w.heap.size w w1)
    (HA6 : w6.ownsRow N 31 10 v6 (GM.length + 1) (mrow GM ds' ++ (x.cells d').toList)) (HG6 : (w1.alloc o).grownBy w6 vb.ownBlock) (HK6 : v6.ownBlock = vb.ownBlock ∨ v6.ownBlock = some (w1.alloc o).heap.size)
    (HA7 : w7.ownsRow B 24 1 v7 (RM.length + 1) (xs' ++ [u])) (HG7 : (w6.alloc o').grownBy w7 vr.ownBlock)
    (hu : ∀ W, Below N w W → LAt N W u L') :
    MgD N w7 v6 (GM ++ [x]) (ds' ++ [d']) ∧ Rst N B w7 v7 (RM ++ [L']) (xs' ++ [u]) ∧ LsAt N w7 (fun b => v6.ownBlock ≠ some b ∧ b < B) a L ∧ Below N w w7 := by
  have O6 : Out (fun g => vb.ownBlock = some g) w w6 := out_app HB1 HG6
  have O61 : Out (fun g => vb.ownBlock = some g) w1 w6 := out_app (Below.refl _ _) HG6
  have B6 : Below N w w6 := O6.below hN (fun i hi => (row_type HM.row hi).1)
  have hs1 := HB1.size
  have hs6 := O61.size
  have M6 : MgD N w6 v6 (GM ++ [x]) (ds' ++ [d']) := HM.next O6 (ofT_row HM.row) (Ow.base (row_apart HO1 O61 (ofT_row (row_below HM.row HB1)) (by decide)) hN) HA6
  have R6 : Rst N B w6 vr RM xs' := HR.out O6 B6 (ofT_row HM.row) (by decide)
  have O7 : Out (fun g => vr.ownBlock = some g) w6 w7 := out_app (Below.refl _ _) HG7
  have B7 : Below N w6 w7 := O7.below (by omega) (fun i hi => by have := (row_type R6.1 hi).1; omega)
  have B8 : Below N w w7 := B6.trans B7
  refine ⟨M6.out O7 (ofT_row R6.1) (by decide) (by decide), R6.next B7 (hu _ B8) HA7, ?_, B8⟩
  have L6 : LsAt N w6 (fun b => v6.ownBlock ≠ some b ∧ b < B) a L := HL.out O6 B6 (fun b _ h hx => h.1 hx) (fun b hb h => ⟨fun e => by
    rcases HK6 with h1 | h1
    · exact h.1 (h1 ▸ e)
    · rw [h1, World.size_alloc] at e
      have := Option.some.inj e
      omega, h.2⟩)
  exact L6.out O7 B7 (fun b _ h hx => by have := (row_type R6.1 hx).1; have := h.2; omega) (fun b _ h => h)
end Go.Proofs.YtgonbicpehjogaaGreatDoor
