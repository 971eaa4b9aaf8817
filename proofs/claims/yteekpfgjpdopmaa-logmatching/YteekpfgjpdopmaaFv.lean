/-
  Several logs beside one another: a row of pointers, and logs that lie apart.
-/
import Derived.Test.YteekpfgjpdopmaaMq
import Derived.Test.YteekpfgjpdopmaaAq
namespace Go.Proofs.Yteekpfgjpdopmaa
open Go.RowKit
set_option linter.unusedVariables false

@[reducible] def encP (b : Nat) : Value := .pointer (some ⟨b, 0, none⟩)
theorem infoP : (Try.prog.info? 25).map (fun i => (i.zero, i.size, i.bytes)) = some (some (.pointer none), 1, 8) := by kernel_rfl

/-- A row of pointers of the call's own, and the logs that they point to. -/
structure Fv (N : Nat) (w : World) (v : Value) (bs : List Nat) (Ss : Nat → Nat → Prop) (L : Nat → PL) : Prop where
  row : w.ownsRow N 25 1 v bs.length (bs.map encP)
  lg : ∀ j, j < bs.length → Lg N (Ss j) w (bs.getD j 0) (L j)
  ap : ∀ i j, i < bs.length → j < bs.length → i ≠ j → ∀ x, Ss i x → ¬ Ss j x
  rw : ∀ j, j < bs.length → ∀ g, v.ownBlock = some g → ¬ Ss j g

def updS (Ss : Nat → Nat → Prop) (t : Nat) (S : Nat → Prop) : Nat → Nat → Prop := fun j => if j = t then S else Ss j
theorem updS_same (Ss : Nat → Nat → Prop) (t : Nat) (S : Nat → Prop) : updS Ss t S t = S := if_pos rfl
theorem updS_ne (Ss : Nat → Nat → Prop) {j t : Nat} (S : Nat → Prop) (h : j ≠ t) : updS Ss t S j = Ss j := if_neg h

theorem ownsRow_out {X : Nat → Prop} {N e size n : Nat} {w w' : World} {v : Value} {xs : List Value} (h : w.ownsRow N e size v n xs) (hO : Out X w w') (hx : ∀ g, v.ownBlock = some g → ¬ X g) : w'.ownsRow N e size v n xs := by
  refine ⟨h.1, ?_⟩
  rcases h.2 with h2 | ⟨g, cap, cur, rfl, hg, hb, r⟩
  · exact .inl h2
  · exact .inr ⟨g, cap, cur, rfl, hg, (hO.block g (Array.getElem?_eq_some_iff.1 hb).1 (hx g rfl)).trans hb, r⟩

theorem ownsRow_shape {N e size n : Nat} {w : World} {v : Value} {xs : List Value} (h : w.ownsRow N e size v n xs) : ∃ a c, v = .slice a n c := by
  rcases h.2 with ⟨rfl, h2⟩ | ⟨g, cap, cur, rfl, _⟩
  · exact ⟨none, 0, by rw [h2]⟩
  · exact ⟨_, _, rfl⟩

theorem Lg.base {N N' : Nat} {S : Nat → Prop} {w : World} {b : Nat} {P : PL} (h : Lg N S w b P) (hN : N' ≤ N) : Lg N' S w b P := ⟨h.at_, h.ok, h.Sb, h.inn, fun i hi => Nat.le_trans hN (h.fr i hi)⟩

theorem Fv.start (N : Nat) (w : World) (Ss : Nat → Nat → Prop) (L : Nat → PL) : Fv N w (.slice none 0 0) [] Ss L :=
  ⟨World.ownsRow_nil _ _ _ _, fun j hj => absurd hj (Nat.not_lt_zero _), fun i j hi => absurd hi (Nat.not_lt_zero _), fun j hj => absurd hj (Nat.not_lt_zero _)⟩

theorem Fv.below {N : Nat} {w w' : World} {v : Value} {bs : List Nat} {Ss : Nat → Nat → Prop} {L : Nat → PL} (h : Fv N w v bs Ss L) (hB : Below w.heap.size w w') : Fv N w' v bs Ss L :=
  ⟨ownsRow_out (X := fun _ => False) h.row (Out.of_below hB) (fun _ _ hf => hf), fun j hj => (h.lg j hj).below hB, h.ap, h.rw⟩

theorem Fv.th {N : Nat} {w w' : World} {v : Value} {bs : List Nat} {Ss : Nat → Nat → Prop} {L : Nat → PL} (h : Fv N w v bs Ss L) {t : Nat} (ht : t < bs.length) {P : PL} (hT : LTh N (Ss t) w w' (bs.getD t 0) P) :
    Fv N w' v bs (updS Ss t (grew (Ss t) w w')) (updP L t P) := by
  refine ⟨ownsRow_out h.row hT.out (fun g hg => h.rw t ht g hg), fun j hj => ?_, fun i j hi hj hij x hx hx2 => ?_, fun j hj g hg hs => ?_⟩
  · by_cases e : j = t
    · subst e
      rw [updS_same, updP_same]
      exact hT.q
    · rw [updS_ne Ss _ e, updP_ne L P e]
      exact (h.lg j hj).out hT.out (fun i hi => h.ap j t hj ht e i hi)
  · by_cases e1 : i = t
    · subst e1
      rw [updS_same] at hx
      rw [updS_ne Ss _ (fun e => hij e.symm)] at hx2
      rcases hx with hx | hx
      · exact h.ap i j hi hj hij x hx hx2
      · have := (h.lg j hj).inn x hx2
        omega
    · rw [updS_ne Ss _ e1] at hx
      by_cases e2 : j = t
      · subst e2
        rw [updS_same] at hx2
        rcases hx2 with hx2 | hx2
        · exact h.ap i j hi hj hij x hx hx2
        · have := (h.lg i hi).inn x hx
          omega
      · rw [updS_ne Ss _ e2] at hx2
        exact h.ap i j hi hj hij x hx hx2
  · by_cases e : j = t
    · subst e
      rw [updS_same] at hs
      rcases hs with hs | hs
      · exact h.rw j hj g hg hs
      · have := (h.row.lt g hg).2
        omega
    · rw [updS_ne Ss _ e] at hs
      exact h.rw j hj g hg hs

/-- One log more. -/
theorem Fv.snoc {N : Nat} {w w2 w3 : World} {v v' : Value} {bs : List Nat} {Ss : Nat → Nat → Prop} {S : Nat → Prop} {b : Nat} {o : Obj} (h : Fv N w v bs Ss (fun _ => P0)) (hN : N ≤ w.heap.size) (hB : Below w.heap.size w w2) (hL : Lg w.heap.size S w2 b P0)
    (hr : w3.ownsRow N 25 1 v' (bs.length + 1) (bs.map encP ++ [encP b])) (hg : (w2.alloc o).grownBy w3 v.ownBlock) (hb : v'.ownBlock = v.ownBlock ∨ v'.ownBlock = some (w2.alloc o).heap.size) :
    Fv N w3 v' (bs ++ [b]) (updS Ss bs.length S) (fun _ => P0) := by
  have hz : (w2.alloc o).heap.size = w2.heap.size + 1 := by simp
  have hA : Below w2.heap.size w2 (w2.alloc o) := (Below.refl _ _).alloc (Nat.le_refl _) _
  have hO : Out (fun i => v.ownBlock = some i) (w2.alloc o) w3 := Out.grown hg (fun j e => e)
  have hw2 := hB.size
  have len1 : (bs ++ [b]).length = bs.length + 1 := by simp
  have old : ∀ j, j < bs.length → (bs ++ [b]).getD j 0 = bs.getD j 0 := fun j hj => by simp only [List.getD_eq_getElem?_getD, List.getElem?_append_left hj]
  have new : (bs ++ [b]).getD bs.length 0 = b := by simp [List.getD_eq_getElem?_getD]
  refine ⟨by rw [len1]; simpa using hr, fun j hj => ?_, fun i j hi hj hij x hx hx2 => ?_, fun j hj g hgv hs => ?_⟩
  · rw [len1] at hj
    by_cases e : j = bs.length
    · subst e
      rw [updS_same, new]
      exact ((hL.base hN).below hA).out hO (fun i hi hv => by have := hL.fr i hi; have := (h.row.lt i hv).2; omega)
    · have hj' : j < bs.length := by omega
      rw [updS_ne Ss _ e, old j hj']
      exact (((h.lg j hj').below hB).below hA).out hO (fun i hi hv => h.rw j hj' i hv hi)
  · rw [len1] at hi hj
    by_cases e1 : i = bs.length
    · subst e1
      rw [updS_same] at hx
      rw [updS_ne Ss _ (fun e => hij e.symm)] at hx2
      have h1 := hL.fr x hx
      have h2 := (h.lg j (by omega)).inn x hx2
      omega
    · rw [updS_ne Ss _ e1] at hx
      by_cases e2 : j = bs.length
      · subst e2
        rw [updS_same] at hx2
        have h1 := hL.fr x hx2
        have h2 := (h.lg i (by omega)).inn x hx
        omega
      · rw [updS_ne Ss _ e2] at hx2
        exact h.ap i j (by omega) (by omega) hij x hx hx2
  · rw [len1] at hj
    have hsz : updS Ss bs.length S j g → g < w2.heap.size := fun hs => by
      by_cases e : j = bs.length
      · subst e; rw [updS_same] at hs; exact hL.inn g hs
      · rw [updS_ne Ss _ e] at hs; have := (h.lg j (by omega)).inn g hs; omega
    have h3 := hsz hs
    rcases hb with hb | hb
    · rw [hb] at hgv
      by_cases e : j = bs.length
      · subst e
        rw [updS_same] at hs
        have h1 := hL.fr g hs
        have h2 := (h.row.lt g hgv).2
        omega
      · rw [updS_ne Ss _ e] at hs
        exact h.rw j (by omega) g hgv hs
    · rw [hb] at hgv
      simp only [Option.some.injEq] at hgv
      omega

/-- The row's cells. -/
theorem Fv.cells {N : Nat} {w : World} {v : Value} {bs : List Nat} {Ss : Nat → Nat → Prop} {L : Nat → PL} (h : Fv N w v bs Ss L) (hl : 0 < bs.length) : ∃ rb c, v = .slice (some ⟨rb, 0, none⟩) bs.length c ∧ rb < w.heap.size ∧ bs.length ≤ c ∧ c ≤ maxLen := by
  rcases h.row.2 with ⟨rfl, h2⟩ | ⟨g, cap, cur, rfl, _, hb, h3, h4, _⟩
  · omega
  · exact ⟨g, cap, rfl, (Array.getElem?_eq_some_iff.1 hb).1, h3, h4⟩
theorem Fv.cell {N : Nat} {w : World} {bs : List Nat} {Ss : Nat → Nat → Prop} {L : Nat → PL} {rb n c : Nat} (h : Fv N w (.slice (some ⟨rb, 0, none⟩) n c) bs Ss L) {j : Nat} (hj : j < bs.length) : w.cell? ⟨rb, j, none⟩ = some (.pointer (some ⟨bs.getD j 0, 0, none⟩)) := by
  have := h.row.cells (g := rb) rfl j (encP (bs.getD j 0)) (by rw [List.getElem?_map, List.getD_eq_getElem?_getD, List.getElem?_eq_getElem hj]; rfl)
  rw [Addr.add_lit] at this
  simpa using this
/-- An append of one pointer, as a law of the walk. -/
theorem step_append_p {ops : Array Oper} {rest : List Oper} {o : Oper} {a : Act} {Q : Exit → Act → World → Prop} {w : World} (hgd : o.guard = none) (s x : Operand)
    (ho : o.op = .call { callee := .builtin .append, args := #[s, x], argTypes := #[68, 68] })
    (N : Nat) (v : Value) (bs : List Nat) (b : Nat) (hs : a.eval s = v) (hv : (w.alloc (.cells #[encP b] 25)).ownsRow N 25 1 v bs.length (bs.map encP)) (hx : a.eval x = .slice (some ⟨w.heap.size, 0, none⟩) 1 1) (hlen : bs.length ≤ 1000) (hN : N ≤ w.heap.size)
    (h : ∀ v' w', w'.ownsRow N 25 1 v' (bs.length + 1) (bs.map encP ++ [encP b]) → (w.alloc (.cells #[encP b] 25)).grownBy w' v.ownBlock → (v'.ownBlock = v.ownBlock ∨ v'.ownBlock = some (w.alloc (.cells #[encP b] 25)).heap.size) → wpList Try.prog ops Q rest (a.put o.dst v') w') :
    wpList Try.prog ops Q (o :: rest) a (w.alloc (.cells #[encP b] 25)) := by
  obtain ⟨i0, hi, hz0, hz1, hz2⟩ := info_parts infoP
  refine wpList_append_own_at _ hgd s x 68 ho N 25 i0 (.pointer none) 1 8 Try.underlying68 hi hz0 hz1 hz2 rfl (by decide) v bs.length (bs.map encP) hs hv ⟨w.heap.size, 0, none⟩ 1 1 [encP b] hx rfl (cell_one_new w (encP b) 25) (by intro u hu; simp at hu; subst hu; rfl) (by unfold maxLen; omega) (by omega) (by simp; omega) ?_
  intro v' w' h1 h2 h3 h4
  exact h v' w' h1 h2 h4

theorem wrap_u8 (n : Int) : ∃ x : UInt8, IntKind.u8.wrap n = (x.toNat : Int) := by
  refine ⟨UInt8.ofNat (IntKind.u8.wrap n).toNat, ?_⟩
  have h1 : 0 ≤ IntKind.u8.wrap n ∧ IntKind.u8.wrap n < 256 := by
    constructor
    · show 0 ≤ n % 256
      omega
    · show n % 256 < 256
      omega
  simp
  omega

/-- What an Append leaves, of a log that begins at nothing. -/
theorem Zr.app {P : PL} (z : Zr P) {t k : Int} {d : List UInt8} (ho : (apL P t k d).Ok) : Zr (apL P t k d) ∧ ((apL P t k d).E = P.E ∨ (apL P t k d).E = P.E ++ [(t, P.li + 1, k, d)]) := by
  unfold apL at ho ⊢
  by_cases he : apE P t k d.length = 0
  · rw [if_pos he] at ho ⊢
    exact ⟨⟨ho, z.bi, z.bt, z.c⟩, .inr rfl⟩
  · rw [if_neg he] at ho ⊢
    exact ⟨z, .inl rfl⟩
end Go.Proofs.Yteekpfgjpdopmaa
