/-
  Entries in memory: a list of them, as the walks read it; rows of the call's own.
-/
import Derived.Test.YteekpfgjpdopmaaBas
namespace Go.Proofs.Yteekpfgjpdopmaa
open Go.RowKit
set_option linter.unusedVariables false

/-- Is a number from one to another? -/
def isIn (n a b : Int) : Bool := decide (a ≤ n) && decide (n ≤ b)
/-- What may be of an entry. -/
def ckEntry (t i k : Int) (n : Nat) : Nat :=
  if isIn t 1 4611686018427387904 = false then 1 else if isIn i 1 4611686018427387904 = false then 1 else if k ≠ 0 ∧ k ≠ 1 then 6 else if (4096 : Int) < (n : Int) then 3 else if k = 0 ∧ (0 : Int) < (n : Int) then 4 else 0

/-- What an entry says: its term, its index, its kind, its bytes. -/
abbrev En := Int × Int × Int × List UInt8
def eT (e : En) : Int := e.1
def eI (e : En) : Int := e.2.1
def eK (e : En) : Int := e.2.2.1
def eD (e : En) : List UInt8 := e.2.2.2
def nilEn : En := (0, 0, 0, [])
def eCk (e : En) : Nat := ckEntry (eT e) (eI e) (eK e) (eD e).length
theorem eCk_ok {e : En} (h : eCk e = 0) : 1 ≤ eT e ∧ eT e ≤ 4611686018427387904 ∧ 1 ≤ eI e ∧ eI e ≤ 4611686018427387904 ∧ (eD e).length ≤ 4096 := by
  unfold eCk ckEntry isIn at h
  by_cases h1 : 1 ≤ eT e ∧ eT e ≤ 4611686018427387904
  · by_cases h2 : 1 ≤ eI e ∧ eI e ≤ 4611686018427387904
    · simp [h1, h2] at h
      refine ⟨h1.1, h1.2, h2.1, h2.2, ?_⟩
      by_cases h3 : (eD e).length ≤ 4096
      · exact h3
      · exfalso
        revert h
        repeat' split
        all_goals omega
    · exfalso
      have : (decide (1 ≤ eI e) && decide (eI e ≤ 4611686018427387904)) = false := by
        simp only [Bool.and_eq_false_iff, decide_eq_false_iff_not]; omega
      simp [h1, this] at h
  · exfalso
    have : (decide (1 ≤ eT e) && decide (eT e ≤ 4611686018427387904)) = false := by
      simp only [Bool.and_eq_false_iff, decide_eq_false_iff_not]; omega
    simp [this] at h

/-- An entry, as it lies in memory. -/
structure Ent where
  t : Int
  i : Int
  k : Int
  a : Option Addr
  c : Nat
  d : List UInt8

/-- No entry. -/
def nilEnt : Ent := ⟨0, 0, 0, none, 0, []⟩
def Ent.x (e : Ent) : Value := .slice e.a e.d.length e.c
def Ent.v (e : Ent) : Value := .agg #[.int .i64 e.t, .int .i64 e.i, .int .i64 e.k, e.x]
/-- What an entry says. -/
def Ent.says (e : Ent) : En := (e.t, e.i, e.k, e.d)

/-- One entry lies at a place. -/
def EntAt (N : Nat) (w : World) (b off : Nat) (e : Ent) : Prop :=
  w.cell? ⟨b, off, none⟩ = some (.int .i64 e.t) ∧ w.cell? ⟨b, off + 1, none⟩ = some (.int .i64 e.i) ∧ w.cell? ⟨b, off + 2, none⟩ = some (.int .i64 e.k) ∧ w.cell? ⟨b, off + 3, none⟩ = some e.x ∧ Sl N w e.x e.d

/-- A list of entries, in blocks below N. -/
def EntsAt (N : Nat) (w : World) (a : Option Addr) (es : List Ent) : Prop :=
  es = [] ∨ ∃ b off, a = some ⟨b, off, none⟩ ∧ b < N ∧ ∀ i, i < es.length → EntAt N w b (off + i * 4) (es.getD i nilEnt)

theorem EntAt.below {N : Nat} {w w' : World} {b off : Nat} {e : Ent} (h : EntAt N w b off e) (hb : b < N) (hB : Below N w w') : EntAt N w' b off e :=
  ⟨(hB.cell (p := ⟨b, off, none⟩) hb).trans h.1, (hB.cell (p := ⟨b, off + 1, none⟩) hb).trans h.2.1, (hB.cell (p := ⟨b, off + 2, none⟩) hb).trans h.2.2.1, (hB.cell (p := ⟨b, off + 3, none⟩) hb).trans h.2.2.2.1, h.2.2.2.2.below hB⟩
theorem EntsAt.below {N : Nat} {w w' : World} {a : Option Addr} {es : List Ent} (h : EntsAt N w a es) (hB : Below N w w') : EntsAt N w' a es := by
  rcases h with h | ⟨b, off, ha, hb, hc⟩
  · exact .inl h
  · exact .inr ⟨b, off, ha, hb, fun i hi => (hc i hi).below hb hB⟩
theorem EntAt.mono {N M : Nat} {w : World} {b off : Nat} {e : Ent} (h : EntAt N w b off e) (hM : N ≤ M) : EntAt M w b off e := ⟨h.1, h.2.1, h.2.2.1, h.2.2.2.1, h.2.2.2.2.mono hM⟩
theorem EntsAt.mono {N M : Nat} {w : World} {a : Option Addr} {es : List Ent} (h : EntsAt N w a es) (hM : N ≤ M) : EntsAt M w a es := by
  rcases h with h | ⟨b, off, ha, hb, hc⟩
  · exact .inl h
  · exact .inr ⟨b, off, ha, by omega, fun i hi => (hc i hi).mono hM⟩
theorem EntsAt.at {N : Nat} {w : World} {a : Option Addr} {es : List Ent} (h : EntsAt N w a es) {i : Nat} (hi : i < es.length) : ∃ b off, a = some ⟨b, off, none⟩ ∧ b < N ∧ EntAt N w b (off + i * 4) (es.getD i nilEnt) := by
  rcases h with h | ⟨b, off, ha, hb, hc⟩
  · subst h; simp at hi
  · exact ⟨b, off, ha, hb, hc i hi⟩
theorem getD_drop' (es : List Ent) (n i : Nat) : (es.drop n).getD i nilEnt = es.getD (n + i) nilEnt := by
  simp [List.getD_eq_getElem?_getD, List.getElem?_drop]
theorem getD_take' (es : List Ent) (n i : Nat) (h : i < n) : (es.take n).getD i nilEnt = es.getD i nilEnt := by
  simp [List.getD_eq_getElem?_getD, h]
/-- A part of them. -/
theorem EntsAt.cut {N : Nat} {w : World} {b off : Nat} {es : List Ent} (h : EntsAt N w (some ⟨b, off, none⟩) es) (n m : Nat) : EntsAt N w (some ⟨b, off + n * 4, none⟩) ((es.drop n).take m) := by
  rcases h with h | ⟨b', off', ha, hb, hc⟩
  · exact .inl (by simp [h])
  · cases ha
    refine .inr ⟨b, off + n * 4, rfl, hb, fun i hi => ?_⟩
    simp at hi
    rw [getD_take' _ _ _ (by omega), getD_drop']
    have := hc (n + i) (by omega)
    rw [Nat.add_mul, ← Nat.add_assoc] at this
    exact this
theorem EntsAt.nil (N : Nat) (w : World) (a : Option Addr) : EntsAt N w a [] := .inl rfl

/-- The cells of entries. -/
def entCells : List Ent → List Value
  | [] => []
  | e :: r => [.int .i64 e.t, .int .i64 e.i, .int .i64 e.k, e.x] ++ entCells r
theorem entCells_append (a b : List Ent) : entCells (a ++ b) = entCells a ++ entCells b := by
  induction a with
  | nil => rfl
  | cons e r ih => simp [entCells, ih]
theorem entCells_length (a : List Ent) : (entCells a).length = a.length * 4 := by
  induction a with
  | nil => rfl
  | cons e r ih => simp [entCells, ih]; omega
theorem entCells_take (a : List Ent) : ∀ n, entCells (a.take n) = (entCells a).take (n * 4) := by
  induction a with
  | nil => intro n; simp [entCells]
  | cons e r ih =>
    intro n
    cases n with
    | zero => simp [entCells]
    | succ n =>
      have e1 : (n + 1) * 4 = n * 4 + 1 + 1 + 1 + 1 := by omega
      rw [e1]
      simp [entCells, ih n]
theorem entCells_one (u : List Ent) : ∀ x ∈ entCells u, x.oneCell' = true := by
  induction u with
  | nil => intro x hx; simp [entCells] at hx
  | cons e r ih =>
    intro x hx
    simp only [entCells, List.cons_append, List.nil_append, List.mem_cons] at hx
    rcases hx with rfl | rfl | rfl | rfl | hx
    · rfl
    · rfl
    · rfl
    · rfl
    · exact ih x hx
theorem entCells_at : ∀ (fs : List Ent) (i : Nat), i < fs.length → (entCells fs)[i * 4]? = some (.int .i64 (fs.getD i nilEnt).t) ∧ (entCells fs)[i * 4 + 1]? = some (.int .i64 (fs.getD i nilEnt).i) ∧ (entCells fs)[i * 4 + 2]? = some (.int .i64 (fs.getD i nilEnt).k) ∧ (entCells fs)[i * 4 + 3]? = some (fs.getD i nilEnt).x := by
  intro fs
  induction fs with
  | nil => intro i hi; simp at hi
  | cons f r ih =>
    intro i hi
    cases i with
    | zero => simp [entCells]
    | succ i =>
      obtain ⟨a1, a2, a3, a4⟩ := ih i (by simpa using hi)
      have e1 : (i + 1) * 4 = i * 4 + 1 + 1 + 1 + 1 := by omega
      rw [e1]
      simp only [entCells, List.cons_append, List.nil_append, List.getElem?_cons_succ, List.getD_cons_succ]
      exact ⟨a1, a2, a3, a4⟩
theorem entCells_of (es : List Ent) (o : Nat) (v : Value) (h : (entCells es)[o]? = some v) (P : Nat → Value → Prop) (hP : ∀ i, i < es.length → P (i * 4) (.int .i64 (es.getD i nilEnt).t) ∧ P (i * 4 + 1) (.int .i64 (es.getD i nilEnt).i) ∧ P (i * 4 + 2) (.int .i64 (es.getD i nilEnt).k) ∧ P (i * 4 + 3) (es.getD i nilEnt).x) : P o v := by
  have ho := (List.getElem?_eq_some_iff.1 h).1
  rw [entCells_length] at ho
  obtain ⟨q, hq, this⟩ : ∃ q, q < es.length ∧ (o = q * 4 ∨ o = q * 4 + 1 ∨ o = q * 4 + 2 ∨ o = q * 4 + 3) := ⟨o / 4, by omega, by omega⟩
  obtain ⟨a1, a2, a3, a4⟩ := entCells_at es q hq
  obtain ⟨b1, b2, b3, b4⟩ := hP q hq
  rcases this with e | e | e | e
  · subst e; rw [a1] at h; cases h; exact b1
  · subst e; rw [a2] at h; cases h; exact b2
  · subst e; rw [a3] at h; cases h; exact b3
  · subst e; rw [a4] at h; cases h; exact b4

/-- Entries of a call's own. -/
structure EntsOw (N : Nat) (w : World) (v : Value) (es : List Ent) : Prop where
  row : w.ownsRow N 40 4 v es.length (entCells es)
  dat : ∀ e ∈ es, Ow N w e.x e.d

theorem EntsOw.nil (N : Nat) (w : World) : EntsOw N w (.slice none 0 0) [] := ⟨World.ownsRow_nil _ _ _ _, by simp⟩
theorem EntsOw.base {N N' : Nat} {w : World} {v : Value} {es : List Ent} (h : EntsOw N w v es) (hN : N' ≤ N) : EntsOw N' w v es := by
  refine ⟨⟨h.row.1, ?_⟩, fun e he => (h.dat e he).base hN⟩
  rcases h.row.2 with h2 | ⟨g, cap, cur, hv, hg, r⟩
  · exact .inl h2
  · exact .inr ⟨g, cap, cur, hv, by omega, r⟩
theorem EntsOw.shape {N : Nat} {w : World} {v : Value} {es : List Ent} (h : EntsOw N w v es) : ∃ va vc, v = .slice va es.length vc ∧ es.length ≤ vc ∧ vc ≤ maxLen := by
  rcases h.row.2 with ⟨hv, h0⟩ | ⟨g, cap, cur, hv, _, _, h1, h2, _⟩
  · rw [h0]; exact ⟨_, _, hv, Nat.le_refl _, by unfold maxLen; omega⟩
  · exact ⟨_, _, hv, h1, h2⟩
theorem EntsOw.lt {N : Nat} {w : World} {v : Value} {es : List Ent} (h : EntsOw N w v es) {g : Nat} (hg : v.ownBlock = some g) : N ≤ g ∧ g < w.heap.size := h.row.lt g hg

theorem cell_four_new (w : World) (a b c d : Value) (t : TypeId) : ∀ j u, [a, b, c, d][j]? = some u → (w.alloc (.cells #[a, b, c, d] t)).cell? ((⟨w.heap.size, 0, none⟩ : Addr).add j) = some u := by
  intro j u hj
  have hh := heap_alloc_new w (.cells #[a, b, c, d] t)
  rw [Addr.add_lit]
  simp only [World.cell?, hh, Nat.zero_add]
  simpa using hj

/-- An entry's bytes lie apart from the row of entries. -/
theorem EntsOw.apart {N M : Nat} {w : World} {v u : Value} {es : List Ent} {d : List UInt8} (h : EntsOw N w v es) (hO : Ow M w u d) : u.ownBlock = none ∨ u.ownBlock ≠ v.ownBlock := by
  rcases h.row.2 with ⟨hv, -⟩ | ⟨g, cap, cur, hv, hg, hh, -⟩
  · subst hv
    cases hu : u.ownBlock
    · exact .inl rfl
    · exact .inr (by simp [Value.ownBlock])
  · subst hv
    exact .inr (hO.not_at hh (by decide))
theorem EntsOw.not_at {N : Nat} {w : World} {v : Value} {es : List Ent} (h : EntsOw N w v es) {R : Nat} {cs : Array Value} {t : TypeId} {z : Nat × Nat} (hR : w.heap[R]? = some (.cells cs t z)) (ht : t ≠ 40) : v.ownBlock ≠ some R := by
  rcases h.row.2 with ⟨rfl, _⟩ | ⟨g, cap, cur, rfl, _, hgb, _⟩
  · simp [Value.ownBlock]
  · intro e'
    obtain rfl : g = R := by simpa [Value.ownBlock] using e'
    rw [hR] at hgb
    simp at hgb
    exact ht hgb.2.1
theorem EntsOw.out {X : Nat → Prop} {N : Nat} {w w' : World} {v : Value} {es : List Ent} (h : EntsOw N w v es) (hO : Out X w w') (hv : ∀ g, v.ownBlock = some g → ¬ X g) (hd : ∀ e ∈ es, ∀ g, e.x.ownBlock = some g → ¬ X g) : EntsOw N w' v es := by
  refine ⟨⟨h.row.1, ?_⟩, fun e he => (h.dat e he).out hO (hd e he)⟩
  rcases h.row.2 with h2 | ⟨g, cap, cur, rfl, hg, hb, r⟩
  · exact .inl h2
  · exact .inr ⟨g, cap, cur, rfl, hg, (hO.block g (Array.getElem?_eq_some_iff.1 hb).1 (hv g rfl)).trans hb, r⟩
theorem EntsOw.below {N : Nat} {w w' : World} {v : Value} {es : List Ent} (h : EntsOw N w v es) (hB : Below w.heap.size w w') : EntsOw N w' v es :=
  h.out (X := fun _ => False) (Out.of_below hB) (fun _ _ hf => hf) (fun _ _ _ _ hf => hf)
theorem EntsOw.alloc {N : Nat} {w : World} {v : Value} {es : List Ent} (h : EntsOw N w v es) (o : Obj) : EntsOw N (w.alloc o) v es := ⟨h.row.alloc o, fun e he => (h.dat e he).alloc o⟩

/-- Entries behind others. -/
theorem EntsOw.app {N : Nat} {w w' : World} {v v' : Value} {es fs : List Ent} (h : EntsOw N w v es) (hO : ∀ e ∈ fs, Ow N w e.x e.d) (hrow : w'.ownsRow N 40 4 v' (es.length + fs.length) (entCells es ++ entCells fs)) (hg : w.grownBy w' v.ownBlock) : EntsOw N w' v' (es ++ fs) := by
  refine ⟨?_, fun x hx => ?_⟩
  · rw [entCells_append, List.length_append]
    exact hrow
  · rcases List.mem_append.1 hx with hx | hx
    · exact (h.dat x hx).kept hg (h.apart (h.dat x hx))
    · exact (hO x hx).kept hg (h.apart (hO x hx))

/-- Entries of a call's own, as a walk reads them. -/
theorem EntsOw.at {N : Nat} {w : World} {va : Option Addr} {vc : Nat} {es : List Ent} (h : EntsOw N w (.slice va es.length vc) es) : EntsAt w.heap.size w va es := by
  by_cases hz : es = []
  · exact .inl hz
  · have hp := List.length_pos_iff.2 hz
    rcases h.row.2 with ⟨_, h0⟩ | ⟨g, cap, cur, hv, hg, hh, h1, h2, h3, h4⟩
    · omega
    · cases hv
      refine .inr ⟨g, 0, rfl, (Array.getElem?_eq_some_iff.1 hh).1, fun i hi => ?_⟩
      have hcell : ∀ o v, o < es.length * 4 → (entCells es)[o]? = some v → w.cell? ⟨g, o, none⟩ = some v := fun o v ho hv => by
        simp only [World.cell?, hh]
        have : (cur.toList.take (es.length * 4))[o]? = some v := by rw [h4]; exact hv
        rw [List.getElem?_take, if_pos ho] at this
        simpa using this
      obtain ⟨a1, a2, a3, a4⟩ := entCells_at es i hi
      have hmem : es.getD i nilEnt ∈ es := by rw [List.getD_eq_getElem?_getD, List.getElem?_eq_getElem hi]; exact List.getElem_mem hi
      rw [Nat.zero_add]
      exact ⟨hcell _ _ (by omega) a1, hcell _ _ (by omega) a2, hcell _ _ (by omega) a3, hcell _ _ (by omega) a4, (h.dat _ hmem).sl (Nat.le_refl _)⟩

theorem infoE : (Try.prog.info? 40).map (fun i => (i.zero, i.size, i.bytes)) = some (some (.agg #[.int .i64 0, .int .i64 0, .int .i64 0, .slice none 0 0]), 4, 48) := by kernel_rfl

/-- Cells of entries that lie somewhere. -/
theorem ents_news {N : Nat} {w : World} {b off : Nat} {fs : List Ent} (h : EntsAt N w (some ⟨b, off, none⟩) fs) : ∀ j u, (entCells fs)[j]? = some u → w.cell? ((⟨b, off, none⟩ : Addr).add j) = some u := by
  intro j u hj
  rw [Addr.add_lit]
  refine entCells_of fs j u hj (fun j u => w.cell? ⟨b, off + j, none⟩ = some u) (fun i hi => ?_)
  obtain ⟨b', off', ha, hb, hc⟩ := h.at hi
  cases ha
  exact ⟨hc.1, by rw [← Nat.add_assoc]; exact hc.2.1, by rw [← Nat.add_assoc]; exact hc.2.2.1, by rw [← Nat.add_assoc]; exact hc.2.2.2.1⟩

theorem run_append_ents (ty : TypeId) (w : World) (N M : Nat) (v : Value) (xa : Option Addr) (xc : Nat) (es fs : List Ent) (hv : w.ownsRow N 40 4 v es.length (entCells es)) (hx : EntsAt M w xa fs) (hlen : es.length + fs.length ≤ 1000000000) (hN : N ≤ w.heap.size) :
    ∃ v' w', (Builtin.append_ #[34, 34] ty #[v, .slice xa fs.length xc]).run Try.prog w = .ok v' w' ∧ w'.ownsRow N 40 4 v' (es.length + fs.length) (entCells es ++ entCells fs) ∧ w.grownBy w' v.ownBlock ∧ (v'.ownBlock = v.ownBlock ∨ v'.ownBlock = some w.heap.size) := by
  obtain ⟨i0, hi, hz0, hz1, hz2⟩ := info_parts infoE
  have key : ∀ ad : Addr, (∀ j u, (entCells fs)[j]? = some u → w.cell? (ad.add j) = some u) → ∃ v' w', (Builtin.append_ #[34, 34] ty #[v, .slice (some ad) fs.length xc]).run Try.prog w = .ok v' w' ∧ w'.ownsRow N 40 4 v' (es.length + fs.length) (entCells es ++ entCells fs) ∧ w.grownBy w' v.ownBlock ∧ (v'.ownBlock = v.ownBlock ∨ v'.ownBlock = some w.heap.size) := by
    intro ad had
    obtain ⟨v', w', r1, r2, r3, _, r5⟩ := run_append_own_at (P := Try.prog) w N 34 ty 40 i0 _ 4 48 Try.underlying34 hi hz0 hz1 hz2 rfl (by decide) v es.length (entCells es) hv ad fs.length xc (entCells fs) (entCells_length fs) had (entCells_one fs) (by unfold maxLen; omega) (by omega) hN
    exact ⟨v', w', r1, r2, r3, r5⟩
  rcases id hx with rfl | ⟨b, off, rfl, hb, hc⟩
  · cases xa with
    | none =>
      refine ⟨v, w, ?_, by simpa [entCells] using hv, grown_refl w _, .inl rfl⟩
      rcases hv.2 with ⟨rfl, _⟩ | ⟨g, cap', cur, rfl, _, _, hnc, _⟩
      · simp [Builtin.append_, run_underlying Try.underlying34, sizeOf, typeInfo, hi, Builtin.lenOf, Builtin.firstCells]
      · simp [Builtin.append_, run_underlying Try.underlying34, sizeOf, typeInfo, hi, Builtin.lenOf, Builtin.firstCells, hnc, storeCells]
    | some ad => exact key ad (by simp [entCells])
  · exact key _ (ents_news hx)

/-- An append of entries onto entries of the call's own, as a law of the walk. -/
theorem wpList_append_ents {ops : Array Oper} {rest : List Oper} {o : Oper} {a : Act} {Q : Exit → Act → World → Prop} {w : World} (hgd : o.guard = none) (s x : Operand)
    (ho : o.op = .call { callee := .builtin .append, args := #[s, x], argTypes := #[34, 34] })
    (N M : Nat) (v : Value) (xa : Option Addr) (xc : Nat) (es fs : List Ent) (hs : a.eval s = v) (hv : w.ownsRow N 40 4 v es.length (entCells es)) (hx : a.eval x = .slice xa fs.length xc) (hsl : EntsAt M w xa fs) (hlen : es.length + fs.length ≤ 1000000000) (hN : N ≤ w.heap.size)
    (h : ∀ v' w', w'.ownsRow N 40 4 v' (es.length + fs.length) (entCells es ++ entCells fs) → w.grownBy w' v.ownBlock → (v'.ownBlock = v.ownBlock ∨ v'.ownBlock = some w.heap.size) → wpList Try.prog ops Q rest (a.put o.dst v') w') :
    wpList Try.prog ops Q (o :: rest) a w := by
  refine wpList_plain hgd fun K hK => ?_
  obtain ⟨v', w', hr, h2, h3, h4⟩ := run_append_ents o.type w N M v xa xc es fs hv hsl hlen hN
  unfold Oper.wp execOp
  simp only [ho, resolve, invoke, builtin, Sem.run_bind, Sem.run_pure, Result.andThen_ok, List.map_toArray, List.map_cons, List.map_nil, hs, hx, hr]
  exact hK _ _ (h v' w' h2 h3 h4)

/-- One entry that is written out. -/
theorem ents_one (w : World) (e : Ent) (N : Nat) (hN : w.heap.size ≤ N) (hs : Sl N w e.x e.d) (hNN : N ≤ w.heap.size) : EntsAt (w.heap.size + 1) (w.alloc (.cells #[.int .i64 e.t, .int .i64 e.i, .int .i64 e.k, e.x] 40)) (some ⟨w.heap.size, 0, none⟩) [e] := by
  refine .inr ⟨_, _, rfl, by omega, fun i hi => ?_⟩
  have hh : (w.alloc (.cells #[.int .i64 e.t, .int .i64 e.i, .int .i64 e.k, e.x] 40)).heap[w.heap.size]? = some (.cells #[.int .i64 e.t, .int .i64 e.i, .int .i64 e.k, e.x] 40) := heap_alloc_new w _
  have : i = 0 := by simpa using hi
  subst this
  refine ⟨?_, ?_, ?_, ?_, ((hs.below ((Below.refl _ w).alloc hNN _)).mono (by omega))⟩
  · simp only [World.cell?, hh]; rfl
  · simp only [World.cell?, hh]; rfl
  · simp only [World.cell?, hh]; rfl
  · simp only [World.cell?, hh]; rfl

theorem drop_at {l : List Ent} {k : Nat} (h : k < l.length) : l.drop k = l.getD k nilEnt :: l.drop (k + 1) := by
  rw [List.drop_eq_getElem_cons h, List.getD_eq_getElem?_getD, List.getElem?_eq_getElem h]; rfl
theorem take_succ' {l : List Ent} {k : Nat} (h : k < l.length) : l.take (k + 1) = l.take k ++ [l.getD k nilEnt] := by
  rw [List.take_add_one, List.getD_eq_getElem?_getD, List.getElem?_eq_getElem h]; rfl
theorem says_getD (es : List Ent) (k : Nat) : (es.map Ent.says).getD k nilEn = (es.getD k nilEnt).says := by
  simp only [List.getD_eq_getElem?_getD, List.getElem?_map]
  cases es[k]? <;> rfl
end Go.Proofs.Yteekpfgjpdopmaa
