/-
  Giving up: must, sound. Entries in memory: a list of them, as the walks read it; rows of the call's own. Rows of things of several cells, of the call's own; the rows of this program: segments, numbers, texts, bytes. A ledger: plainly, and in memory; its last index and term. slices.Delete of a log's last entries.
-/
import Derived.Test.YtnahghldlkjleaaGreatDoorBas
import Derived.Recover
import Derived.Test.YtnahghldlkjleaaGreatDoorJDa
import Derived.Deep.RegionLaw
import Derived.Deep.RegionHeld3
import Derived.Maps.AppendAt
namespace Go.Proofs.YtnahghldlkjleaaGreatDoor
open Go.RowKit
set_option linter.unusedVariables false

/-- What is given up with. -/
def failV (k : Nat) : Value := .iface 162 (.agg #[.int .i64 (k : Int)])
abbrev Gave (k : Nat) (e : Ending) : Prop := e = .panicked [{ v := failV k, recovered := false }]
theorem must_ok (w : World) : Calls Tryz.prog 92 #[.int .i64 0] w fun e w' => e = .returned (.tuple #[]) ∧ w' = w := by
  go_enter Tryz.func92, Tryz.ntmps92
  go_wp2
  go_end0
  exact ⟨rfl, rfl⟩
theorem must_no (k : Nat) (hk : k ≠ 0) (w : World) : Calls Tryz.prog 92 #[.int .i64 (k : Int)] w fun e w' => Gave k e ∧ w' = w := by
  have h1 : ((k : Int) != 0) = true := by simp; omega
  go_enter Tryz.func92, Tryz.ntmps92
  go_wp2
  exact ⟨rfl, rfl, rfl⟩
theorem sound_ok (w : World) : Calls Tryz.prog 110 #[.bool true] w fun e w' => e = .returned (.tuple #[]) ∧ w' = w := by
  go_enter Tryz.func110, Tryz.ntmps110
  go_wp2
  go_end0
  exact ⟨rfl, rfl⟩
theorem sound_no (w : World) : Calls Tryz.prog 110 #[.bool false] w fun e w' => Gave 12 e ∧ w' = w := by
  have h := must_no 12 (by decide) w
  go_enter Tryz.func110, Tryz.ntmps110
  go_wp2_with (go_at_call 92; refine h.mono ?_; rintro e w1 ⟨rfl, rfl⟩)
  exact ⟨rfl, rfl, rfl⟩
end Go.Proofs.YtnahghldlkjleaaGreatDoor
namespace Go.Proofs.YtnahghldlkjleaaGreatDoor
open Go.RowKit
set_option linter.unusedVariables false

theorem Out.put {X : Nat → Prop} {w a : World} {b o : Nat} {u : Value} (h : Out X w a) (hb : X b) : Out X w (a.setCell ⟨b, o, none⟩ u) := h.trans (Out.set (X := X) hb) (fun _ hi _ => hi)
theorem Out.drew {X : Nat → Prop} (w : World) (n : Nat) : Out X w (w.drewN n) := ⟨rfl, rfl, rfl, Nat.le_refl _, fun _ _ _ => rfl⟩
theorem Out.alloc {X : Nat → Prop} {w a : World} (h : Out X w a) (o : Obj) : Out X w (a.alloc o) := h.trans (Y := fun _ => False) (Out.of_below ((Below.refl _ _).alloc (Nat.le_refl _) _)) (fun _ h _ => h.elim)

theorem Ow.lt {N : Nat} {w : World} {v : Value} {l : List UInt8} (h : Ow N w v l) {g : Nat} (hg : v.ownBlock = some g) : N ≤ g ∧ g < w.heap.size := by
  rcases h.2 with ⟨rfl, _⟩ | ⟨g', cap, cur, rfl, hN, hgb, _⟩
  · simp [Value.ownBlock] at hg
  · simp [Value.ownBlock] at hg
    subst hg
    exact ⟨hN, (Array.getElem?_eq_some_iff.1 hgb).1⟩

/-- Is a number from one to another? -/
def isIn (n a b : Int) : Bool := decide (a ≤ n) && decide (n ≤ b)
/-- What may be of an entry. -/
def ckEntry (t i k : Int) (n : Nat) : Nat :=
  if isIn t 1 4611686018427387904 = false then 1 else if isIn i 1 4611686018427387904 = false then 1 else if k ≠ 0 ∧ k ≠ 1 then 6 else if (4096 : Int) < (n : Int) then 3 else if k = 0 ∧ (0 : Int) < (n : Int) then 4 else 0

/-- What an entry says: its term, its index, its kind, its bytes. -/
abbrev En := Int × Int × Int × List UInt8
def eT (e : En) : Int := e.1
def eI (e : En) : Int := e.2.1
def eK (e : En) : Int := e.2.2.1
def eD (e : En) : List UInt8 := e.2.2.2
def nilEn : En := (0, 0, 0, [])
def eCk (e : En) : Nat := ckEntry (eT e) (eI e) (eK e) (eD e).length
theorem eCk_ok {e : En} (h : eCk e = 0) : 1 ≤ eT e ∧ eT e ≤ 4611686018427387904 ∧ 1 ≤ eI e ∧ eI e ≤ 4611686018427387904 ∧ (eD e).length ≤ 4096 := by
  unfold eCk ckEntry isIn at h
  by_cases h1 : 1 ≤ eT e ∧ eT e ≤ 4611686018427387904
  · by_cases h2 : 1 ≤ eI e ∧ eI e ≤ 4611686018427387904
    · simp [h1, h2] at h
      refine ⟨h1.1, h1.2, h2.1, h2.2, ?_⟩
      by_cases h3 : (eD e).length ≤ 4096
      · exact h3
      · exfalso
        revert h
        repeat' split
        all_goals omega
    · exfalso
      have : (decide (1 ≤ eI e) && decide (eI e ≤ 4611686018427387904)) = false := by
        simp only [Bool.and_eq_false_iff, decide_eq_false_iff_not]; omega
      simp [h1, this] at h
  · exfalso
    have : (decide (1 ≤ eT e) && decide (eT e ≤ 4611686018427387904)) = false := by
      simp only [Bool.and_eq_false_iff, decide_eq_false_iff_not]; omega
    simp [this] at h

/-- An entry, as it lies in memory. -/
structure Ent where
  t : Int
  i : Int
  k : Int
  a : Option Addr
  c : Nat
  d : List UInt8

/-- No entry. -/
def nilEnt : Ent := ⟨0, 0, 0, none, 0, []⟩
def Ent.x (e : Ent) : Value := .slice e.a e.d.length e.c
def Ent.v (e : Ent) : Value := .agg #[.int .i64 e.t, .int .i64 e.i, .int .i64 e.k, e.x]
/-- What an entry says. -/
def Ent.says (e : Ent) : En := (e.t, e.i, e.k, e.d)

/-- One entry lies at a place. -/
def EntAt (N : Nat) (w : World) (b off : Nat) (e : Ent) : Prop :=
  w.cell? ⟨b, off, none⟩ = some (.int .i64 e.t) ∧ w.cell? ⟨b, off + 1, none⟩ = some (.int .i64 e.i) ∧ w.cell? ⟨b, off + 2, none⟩ = some (.int .i64 e.k) ∧ w.cell? ⟨b, off + 3, none⟩ = some e.x ∧ Sl N w e.x e.d

/-- A list of entries, in blocks below N. -/
def EntsAt (N : Nat) (w : World) (a : Option Addr) (es : List Ent) : Prop :=
  es = [] ∨ ∃ b off, a = some ⟨b, off, none⟩ ∧ b < N ∧ ∀ i, i < es.length → EntAt N w b (off + i * 4) (es.getD i nilEnt)

theorem EntAt.below {N : Nat} {w w' : World} {b off : Nat} {e : Ent} (h : EntAt N w b off e) (hb : b < N) (hB : Below N w w') : EntAt N w' b off e :=
  ⟨(hB.cell (p := ⟨b, off, none⟩) hb).trans h.1, (hB.cell (p := ⟨b, off + 1, none⟩) hb).trans h.2.1, (hB.cell (p := ⟨b, off + 2, none⟩) hb).trans h.2.2.1, (hB.cell (p := ⟨b, off + 3, none⟩) hb).trans h.2.2.2.1, h.2.2.2.2.below hB⟩
theorem EntsAt.below {N : Nat} {w w' : World} {a : Option Addr} {es : List Ent} (h : EntsAt N w a es) (hB : Below N w w') : EntsAt N w' a es := by
  rcases h with h | ⟨b, off, ha, hb, hc⟩
  · exact .inl h
  · exact .inr ⟨b, off, ha, hb, fun i hi => (hc i hi).below hb hB⟩
theorem EntAt.mono {N M : Nat} {w : World} {b off : Nat} {e : Ent} (h : EntAt N w b off e) (hM : N ≤ M) : EntAt M w b off e := ⟨h.1, h.2.1, h.2.2.1, h.2.2.2.1, h.2.2.2.2.mono hM⟩
theorem EntsAt.mono {N M : Nat} {w : World} {a : Option Addr} {es : List Ent} (h : EntsAt N w a es) (hM : N ≤ M) : EntsAt M w a es := by
  rcases h with h | ⟨b, off, ha, hb, hc⟩
  · exact .inl h
  · exact .inr ⟨b, off, ha, by omega, fun i hi => (hc i hi).mono hM⟩
theorem EntsAt.at {N : Nat} {w : World} {a : Option Addr} {es : List Ent} (h : EntsAt N w a es) {i : Nat} (hi : i < es.length) : ∃ b off, a = some ⟨b, off, none⟩ ∧ b < N ∧ EntAt N w b (off + i * 4) (es.getD i nilEnt) := by
  rcases h with h | ⟨b, off, ha, hb, hc⟩
  · subst h; simp at hi
  · exact ⟨b, off, ha, hb, hc i hi⟩
theorem getD_drop' (es : List Ent) (n i : Nat) : (es.drop n).getD i nilEnt = es.getD (n + i) nilEnt := by
  simp [List.getD_eq_getElem?_getD, List.getElem?_drop]
theorem getD_take' (es : List Ent) (n i : Nat) (h : i < n) : (es.take n).getD i nilEnt = es.getD i nilEnt := by
  simp [List.getD_eq_getElem?_getD, h]
/-- A part of them. -/
theorem EntsAt.cut {N : Nat} {w : World} {b off : Nat} {es : List Ent} (h : EntsAt N w (some ⟨b, off, none⟩) es) (n m : Nat) : EntsAt N w (some ⟨b, off + n * 4, none⟩) ((es.drop n).take m) := by
  rcases h with h | ⟨b', off', ha, hb, hc⟩
  · exact .inl (by simp [h])
  · cases ha
    refine .inr ⟨b, off + n * 4, rfl, hb, fun i hi => ?_⟩
    simp at hi
    rw [getD_take' _ _ _ (by omega), getD_drop']
    have := hc (n + i) (by omega)
    rw [Nat.add_mul, ← Nat.add_assoc] at this
    exact this
theorem EntsAt.nil (N : Nat) (w : World) (a : Option Addr) : EntsAt N w a [] := .inl rfl

/-- The cells of entries. -/
def entCells : List Ent → List Value
  | [] => []
  | e :: r => [.int .i64 e.t, .int .i64 e.i, .int .i64 e.k, e.x] ++ entCells r
theorem entCells_append (a b : List Ent) : entCells (a ++ b) = entCells a ++ entCells b := by
  induction a with
  | nil => rfl
  | cons e r ih => simp [entCells, ih]
theorem entCells_length (a : List Ent) : (entCells a).length = a.length * 4 := by
  induction a with
  | nil => rfl
  | cons e r ih => simp [entCells, ih]; omega
theorem entCells_take (a : List Ent) : ∀ n, entCells (a.take n) = (entCells a).take (n * 4) := by
  induction a with
  | nil => intro n; simp [entCells]
  | cons e r ih =>
    intro n
    cases n with
    | zero => simp [entCells]
    | succ n =>
      have e1 : (n + 1) * 4 = n * 4 + 1 + 1 + 1 + 1 := by omega
      rw [e1]
      simp [entCells, ih n]
theorem entCells_one (u : List Ent) : ∀ x ∈ entCells u, x.oneCell' = true := by
  induction u with
  | nil => intro x hx; simp [entCells] at hx
  | cons e r ih =>
    intro x hx
    simp only [entCells, List.cons_append, List.nil_append, List.mem_cons] at hx
    rcases hx with rfl | rfl | rfl | rfl | hx
    · rfl
    · rfl
    · rfl
    · rfl
    · exact ih x hx
theorem entCells_at : ∀ (fs : List Ent) (i : Nat), i < fs.length → (entCells fs)[i * 4]? = some (.int .i64 (fs.getD i nilEnt).t) ∧ (entCells fs)[i * 4 + 1]? = some (.int .i64 (fs.getD i nilEnt).i) ∧ (entCells fs)[i * 4 + 2]? = some (.int .i64 (fs.getD i nilEnt).k) ∧ (entCells fs)[i * 4 + 3]? = some (fs.getD i nilEnt).x := by
  intro fs
  induction fs with
  | nil => intro i hi; simp at hi
  | cons f r ih =>
    intro i hi
    cases i with
    | zero => simp [entCells]
    | succ i =>
      obtain ⟨a1, a2, a3, a4⟩ := ih i (by simpa using hi)
      have e1 : (i + 1) * 4 = i * 4 + 1 + 1 + 1 + 1 := by omega
      rw [e1]
      simp only [entCells, List.cons_append, List.nil_append, List.getElem?_cons_succ, List.getD_cons_succ]
      exact ⟨a1, a2, a3, a4⟩
theorem entCells_of (es : List Ent) (o : Nat) (v : Value) (h : (entCells es)[o]? = some v) (P : Nat → Value → Prop) (hP : ∀ i, i < es.length → P (i * 4) (.int .i64 (es.getD i nilEnt).t) ∧ P (i * 4 + 1) (.int .i64 (es.getD i nilEnt).i) ∧ P (i * 4 + 2) (.int .i64 (es.getD i nilEnt).k) ∧ P (i * 4 + 3) (es.getD i nilEnt).x) : P o v := by
  have ho := (List.getElem?_eq_some_iff.1 h).1
  rw [entCells_length] at ho
  obtain ⟨q, hq, this⟩ : ∃ q, q < es.length ∧ (o = q * 4 ∨ o = q * 4 + 1 ∨ o = q * 4 + 2 ∨ o = q * 4 + 3) := ⟨o / 4, by omega, by omega⟩
  obtain ⟨a1, a2, a3, a4⟩ := entCells_at es q hq
  obtain ⟨b1, b2, b3, b4⟩ := hP q hq
  rcases this with e | e | e | e
  · subst e; rw [a1] at h; cases h; exact b1
  · subst e; rw [a2] at h; cases h; exact b2
  · subst e; rw [a3] at h; cases h; exact b3
  · subst e; rw [a4] at h; cases h; exact b4

/-- Entries of a call's own. -/
structure EntsOw (N : Nat) (w : World) (v : Value) (es : List Ent) : Prop where
  row : w.ownsRow N 88 4 v es.length (entCells es)
  dat : ∀ e ∈ es, Ow N w e.x e.d

theorem EntsOw.nil (N : Nat) (w : World) : EntsOw N w (.slice none 0 0) [] := ⟨World.ownsRow_nil _ _ _ _, by simp⟩
theorem EntsOw.base {N N' : Nat} {w : World} {v : Value} {es : List Ent} (h : EntsOw N w v es) (hN : N' ≤ N) : EntsOw N' w v es := by
  refine ⟨⟨h.row.1, ?_⟩, fun e he => (h.dat e he).base hN⟩
  rcases h.row.2 with h2 | ⟨g, cap, cur, hv, hg, r⟩
  · exact .inl h2
  · exact .inr ⟨g, cap, cur, hv, by omega, r⟩
theorem EntsOw.shape {N : Nat} {w : World} {v : Value} {es : List Ent} (h : EntsOw N w v es) : ∃ va vc, v = .slice va es.length vc ∧ es.length ≤ vc ∧ vc ≤ maxLen := by
  rcases h.row.2 with ⟨hv, h0⟩ | ⟨g, cap, cur, hv, _, _, h1, h2, _⟩
  · rw [h0]; exact ⟨_, _, hv, Nat.le_refl _, by unfold maxLen; omega⟩
  · exact ⟨_, _, hv, h1, h2⟩
theorem EntsOw.lt {N : Nat} {w : World} {v : Value} {es : List Ent} (h : EntsOw N w v es) {g : Nat} (hg : v.ownBlock = some g) : N ≤ g ∧ g < w.heap.size := h.row.lt g hg

theorem cell_four_new (w : World) (a b c d : Value) (t : TypeId) : ∀ j u, [a, b, c, d][j]? = some u → (w.alloc (.cells #[a, b, c, d] t)).cell? ((⟨w.heap.size, 0, none⟩ : Addr).add j) = some u := by
  intro j u hj
  have hh := heap_alloc_new w (.cells #[a, b, c, d] t)
  rw [Addr.add_lit]
  simp only [World.cell?, hh, Nat.zero_add]
  simpa using hj

/-- An entry's bytes lie apart from the row of entries. -/
theorem EntsOw.apart {N M : Nat} {w : World} {v u : Value} {es : List Ent} {d : List UInt8} (h : EntsOw N w v es) (hO : Ow M w u d) : u.ownBlock = none ∨ u.ownBlock ≠ v.ownBlock := by
  rcases h.row.2 with ⟨hv, -⟩ | ⟨g, cap, cur, hv, hg, hh, -⟩
  · subst hv
    cases hu : u.ownBlock
    · exact .inl rfl
    · exact .inr (by simp [Value.ownBlock])
  · subst hv
    exact .inr (hO.not_at hh (by decide))
theorem EntsOw.not_at {N : Nat} {w : World} {v : Value} {es : List Ent} (h : EntsOw N w v es) {R : Nat} {cs : Array Value} {t : TypeId} {z : Nat × Nat} (hR : w.heap[R]? = some (.cells cs t z)) (ht : t ≠ 88) : v.ownBlock ≠ some R := by
  rcases h.row.2 with ⟨rfl, _⟩ | ⟨g, cap, cur, rfl, _, hgb, _⟩
  · simp [Value.ownBlock]
  · intro e'
    obtain rfl : g = R := by simpa [Value.ownBlock] using e'
    rw [hR] at hgb
    simp at hgb
    exact ht hgb.2.1
theorem EntsOw.out {X : Nat → Prop} {N : Nat} {w w' : World} {v : Value} {es : List Ent} (h : EntsOw N w v es) (hO : Out X w w') (hv : ∀ g, v.ownBlock = some g → ¬ X g) (hd : ∀ e ∈ es, ∀ g, e.x.ownBlock = some g → ¬ X g) : EntsOw N w' v es := by
  refine ⟨⟨h.row.1, ?_⟩, fun e he => (h.dat e he).out hO (hd e he)⟩
  rcases h.row.2 with h2 | ⟨g, cap, cur, rfl, hg, hb, r⟩
  · exact .inl h2
  · exact .inr ⟨g, cap, cur, rfl, hg, (hO.block g (Array.getElem?_eq_some_iff.1 hb).1 (hv g rfl)).trans hb, r⟩
theorem EntsOw.below {N : Nat} {w w' : World} {v : Value} {es : List Ent} (h : EntsOw N w v es) (hB : Below w.heap.size w w') : EntsOw N w' v es :=
  h.out (X := fun _ => False) (Out.of_below hB) (fun _ _ hf => hf) (fun _ _ _ _ hf => hf)
theorem EntsOw.alloc {N : Nat} {w : World} {v : Value} {es : List Ent} (h : EntsOw N w v es) (o : Obj) : EntsOw N (w.alloc o) v es := ⟨h.row.alloc o, fun e he => (h.dat e he).alloc o⟩

/-- Entries behind others. -/
theorem EntsOw.app {N : Nat} {w w' : World} {v v' : Value} {es fs : List Ent} (h : EntsOw N w v es) (hO : ∀ e ∈ fs, Ow N w e.x e.d) (hrow : w'.ownsRow N 88 4 v' (es.length + fs.length) (entCells es ++ entCells fs)) (hg : w.grownBy w' v.ownBlock) : EntsOw N w' v' (es ++ fs) := by
  refine ⟨?_, fun x hx => ?_⟩
  · rw [entCells_append, List.length_append]
    exact hrow
  · rcases List.mem_append.1 hx with hx | hx
    · exact (h.dat x hx).kept hg (h.apart (h.dat x hx))
    · exact (hO x hx).kept hg (h.apart (hO x hx))

/-- Entries of a call's own, as a walk reads them. -/
theorem EntsOw.at {N : Nat} {w : World} {va : Option Addr} {vc : Nat} {es : List Ent} (h : EntsOw N w (.slice va es.length vc) es) : EntsAt w.heap.size w va es := by
  by_cases hz : es = []
  · exact .inl hz
  · have hp := List.length_pos_iff.2 hz
    rcases h.row.2 with ⟨_, h0⟩ | ⟨g, cap, cur, hv, hg, hh, h1, h2, h3, h4⟩
    · omega
    · cases hv
      refine .inr ⟨g, 0, rfl, (Array.getElem?_eq_some_iff.1 hh).1, fun i hi => ?_⟩
      have hcell : ∀ o v, o < es.length * 4 → (entCells es)[o]? = some v → w.cell? ⟨g, o, none⟩ = some v := fun o v ho hv => by
        simp only [World.cell?, hh]
        have : (cur.toList.take (es.length * 4))[o]? = some v := by rw [h4]; exact hv
        rw [List.getElem?_take, if_pos ho] at this
        simpa using this
      obtain ⟨a1, a2, a3, a4⟩ := entCells_at es i hi
      have hmem : es.getD i nilEnt ∈ es := by rw [List.getD_eq_getElem?_getD, List.getElem?_eq_getElem hi]; exact List.getElem_mem hi
      rw [Nat.zero_add]
      exact ⟨hcell _ _ (by omega) a1, hcell _ _ (by omega) a2, hcell _ _ (by omega) a3, hcell _ _ (by omega) a4, (h.dat _ hmem).sl (Nat.le_refl _)⟩

theorem infoE : (Tryz.prog.info? 88).map (fun i => (i.zero, i.size, i.bytes)) = some (some (.agg #[.int .i64 0, .int .i64 0, .int .i64 0, .slice none 0 0]), 4, 48) := by kernel_rfl

/-- Cells of entries that lie somewhere. -/
theorem ents_news {N : Nat} {w : World} {b off : Nat} {fs : List Ent} (h : EntsAt N w (some ⟨b, off, none⟩) fs) : ∀ j u, (entCells fs)[j]? = some u → w.cell? ((⟨b, off, none⟩ : Addr).add j) = some u := by
  intro j u hj
  rw [Addr.add_lit]
  refine entCells_of fs j u hj (fun j u => w.cell? ⟨b, off + j, none⟩ = some u) (fun i hi => ?_)
  obtain ⟨b', off', ha, hb, hc⟩ := h.at hi
  cases ha
  exact ⟨hc.1, by rw [← Nat.add_assoc]; exact hc.2.1, by rw [← Nat.add_assoc]; exact hc.2.2.1, by rw [← Nat.add_assoc]; exact hc.2.2.2.1⟩

theorem run_append_ents (ty : TypeId) (w : World) (N M : Nat) (v : Value) (xa : Option Addr) (xc : Nat) (es fs : List Ent) (hv : w.ownsRow N 88 4 v es.length (entCells es)) (hx : EntsAt M w xa fs) (hlen : es.length + fs.length ≤ 1000000000) (hN : N ≤ w.heap.size) :
    ∃ v' w', (Builtin.append_ #[37, 37] ty #[v, .slice xa fs.length xc]).run Tryz.prog w = .ok v' w' ∧ w'.ownsRow N 88 4 v' (es.length + fs.length) (entCells es ++ entCells fs) ∧ w.grownBy w' v.ownBlock ∧ (v'.ownBlock = v.ownBlock ∨ v'.ownBlock = some w.heap.size) := by
  obtain ⟨i0, hi, hz0, hz1, hz2⟩ := info_parts infoE
  have key : ∀ ad : Addr, (∀ j u, (entCells fs)[j]? = some u → w.cell? (ad.add j) = some u) → ∃ v' w', (Builtin.append_ #[37, 37] ty #[v, .slice (some ad) fs.length xc]).run Tryz.prog w = .ok v' w' ∧ w'.ownsRow N 88 4 v' (es.length + fs.length) (entCells es ++ entCells fs) ∧ w.grownBy w' v.ownBlock ∧ (v'.ownBlock = v.ownBlock ∨ v'.ownBlock = some w.heap.size) := by
    intro ad had
    obtain ⟨v', w', r1, r2, r3, _, r5⟩ := run_append_own_at (P := Tryz.prog) w N 37 ty 88 i0 _ 4 48 Tryz.underlying37 hi hz0 hz1 hz2 rfl (by decide) v es.length (entCells es) hv ad fs.length xc (entCells fs) (entCells_length fs) had (entCells_one fs) (by unfold maxLen; omega) (by omega) hN
    exact ⟨v', w', r1, r2, r3, r5⟩
  rcases id hx with rfl | ⟨b, off, rfl, hb, hc⟩
  · cases xa with
    | none =>
      refine ⟨v, w, ?_, by simpa [entCells] using hv, grown_refl w _, .inl rfl⟩
      rcases hv.2 with ⟨rfl, _⟩ | ⟨g, cap', cur, rfl, _, _, hnc, _⟩
      · simp [Builtin.append_, run_underlying Tryz.underlying37, sizeOf, typeInfo, hi, Builtin.lenOf, Builtin.firstCells]
      · simp [Builtin.append_, run_underlying Tryz.underlying37, sizeOf, typeInfo, hi, Builtin.lenOf, Builtin.firstCells, hnc, storeCells]
    | some ad => exact key ad (by simp [entCells])
  · exact key _ (ents_news hx)

/-- An append of entries onto entries of the call's own, as a law of the walk. -/
theorem wpList_append_ents {ops : Array Oper} {rest : List Oper} {o : Oper} {a : Act} {Q : Exit → Act → World → Prop} {w : World} (hgd : o.guard = none) (s x : Operand)
    (ho : o.op = .call { callee := .builtin .append, args := #[s, x], argTypes := #[37, 37] })
    (N M : Nat) (v : Value) (xa : Option Addr) (xc : Nat) (es fs : List Ent) (hs : a.eval s = v) (hv : w.ownsRow N 88 4 v es.length (entCells es)) (hx : a.eval x = .slice xa fs.length xc) (hsl : EntsAt M w xa fs) (hlen : es.length + fs.length ≤ 1000000000) (hN : N ≤ w.heap.size)
    (h : ∀ v' w', w'.ownsRow N 88 4 v' (es.length + fs.length) (entCells es ++ entCells fs) → w.grownBy w' v.ownBlock → (v'.ownBlock = v.ownBlock ∨ v'.ownBlock = some w.heap.size) → wpList Tryz.prog ops Q rest (a.put o.dst v') w') :
    wpList Tryz.prog ops Q (o :: rest) a w := by
  refine wpList_plain hgd fun K hK => ?_
  obtain ⟨v', w', hr, h2, h3, h4⟩ := run_append_ents o.type w N M v xa xc es fs hv hsl hlen hN
  unfold Oper.wp execOp
  simp only [ho, resolve, invoke, builtin, Sem.run_bind, Sem.run_pure, Result.andThen_ok, List.map_toArray, List.map_cons, List.map_nil, hs, hx, hr]
  exact hK _ _ (h v' w' h2 h3 h4)

/-- One entry that is written out. -/
theorem ents_one (w : World) (e : Ent) (N : Nat) (hN : w.heap.size ≤ N) (hs : Sl N w e.x e.d) (hNN : N ≤ w.heap.size) : EntsAt (w.heap.size + 1) (w.alloc (.cells #[.int .i64 e.t, .int .i64 e.i, .int .i64 e.k, e.x] 88)) (some ⟨w.heap.size, 0, none⟩) [e] := by
  refine .inr ⟨_, _, rfl, by omega, fun i hi => ?_⟩
  have hh : (w.alloc (.cells #[.int .i64 e.t, .int .i64 e.i, .int .i64 e.k, e.x] 88)).heap[w.heap.size]? = some (.cells #[.int .i64 e.t, .int .i64 e.i, .int .i64 e.k, e.x] 88) := heap_alloc_new w _
  have : i = 0 := by simpa using hi
  subst this
  refine ⟨?_, ?_, ?_, ?_, ((hs.below ((Below.refl _ w).alloc hNN _)).mono (by omega))⟩
  · simp only [World.cell?, hh]; rfl
  · simp only [World.cell?, hh]; rfl
  · simp only [World.cell?, hh]; rfl
  · simp only [World.cell?, hh]; rfl

theorem drop_at {l : List Ent} {k : Nat} (h : k < l.length) : l.drop k = l.getD k nilEnt :: l.drop (k + 1) := by
  rw [List.drop_eq_getElem_cons h, List.getD_eq_getElem?_getD, List.getElem?_eq_getElem h]; rfl
theorem take_succ' {l : List Ent} {k : Nat} (h : k < l.length) : l.take (k + 1) = l.take k ++ [l.getD k nilEnt] := by
  rw [List.take_add_one, List.getD_eq_getElem?_getD, List.getElem?_eq_getElem h]; rfl
theorem says_getD (es : List Ent) (k : Nat) : (es.map Ent.says).getD k nilEn = (es.getD k nilEnt).says := by
  simp only [List.getD_eq_getElem?_getD, List.getElem?_map]
  cases es[k]? <;> rfl
end Go.Proofs.YtnahghldlkjleaaGreatDoor
namespace Go.Proofs.YtnahghldlkjleaaGreatDoor
open Go.RowKit
set_option linter.unusedVariables false

/-- How a thing lies in a row: the row's type, the thing's, its cells. -/
structure RK (α : Type) where
  E : TypeId
  S : TypeId
  k : Nat
  bytes : Nat
  z : Value
  enc : α → List Value
  len : ∀ x, (enc x).length = k
  one : ∀ x, ∀ v ∈ enc x, v.oneCell' = true
  pos : 0 < k
  und : Tryz.prog.underlying S = some (.slice E)
  info : (Tryz.prog.info? E).map (fun i => (i.zero, i.size, i.bytes)) = some (some z, k, bytes)
  zc : z.cells.size = k
  by64 : bytes ≤ 128

variable {α : Type}
/-- v is a slice of the call's own, from block N on, that holds xs. -/
def Ro (R : RK α) (N : Nat) (w : World) (v : Value) (xs : List α) : Prop := w.ownsRow N R.E R.k v xs.length (xs.flatMap R.enc)

theorem flat_len (R : RK α) (xs : List α) : (xs.flatMap R.enc).length = xs.length * R.k := by
  induction xs with
  | nil => simp
  | cons x q ih => rw [List.flatMap_cons, List.length_append, R.len, ih, List.length_cons, Nat.add_mul, Nat.one_mul, Nat.add_comm]
theorem flat_get (R : RK α) : ∀ (xs : List α) (i j : Nat) (hi : i < xs.length), j < R.k → (xs.flatMap R.enc)[i * R.k + j]? = (R.enc xs[i])[j]?
  | [], i, j, hi, _ => by simp at hi
  | x :: q, 0, j, _, hj => by
    simp only [List.flatMap_cons, Nat.zero_mul, Nat.zero_add, List.getElem_cons_zero]
    rw [List.getElem?_append_left (by rw [R.len]; exact hj)]
  | x :: q, i + 1, j, hi, hj => by
    have hi' : i < q.length := by simpa using hi
    simp only [List.flatMap_cons, List.getElem_cons_succ]
    rw [List.getElem?_append_right (by rw [R.len, Nat.add_mul, Nat.one_mul]; omega), R.len]
    rw [show (i + 1) * R.k + j - R.k = i * R.k + j by rw [Nat.add_mul, Nat.one_mul]; omega]
    exact flat_get R q i j hi' hj
theorem flat_one (R : RK α) (xs : List α) : ∀ u ∈ xs.flatMap R.enc, u.oneCell' = true := fun u hu => by
  obtain ⟨x, _, hx⟩ := List.mem_flatMap.1 hu
  exact R.one x u hx
theorem Ro.nil (R : RK α) (N : Nat) (w : World) : Ro R N w (.slice none 0 0) [] := World.ownsRow_nil _ _ _ _
theorem Ro.shape {R : RK α} {N : Nat} {w : World} {v : Value} {xs : List α} (h : Ro R N w v xs) : ∃ a cap, v = .slice a xs.length cap ∧ xs.length ≤ cap ∧ cap ≤ maxLen := by
  rcases h.2 with ⟨rfl, h2⟩ | ⟨g, cap, cur, rfl, _, _, h3, h4, _⟩
  · exact ⟨none, 0, by rw [h2], by omega, by unfold maxLen; omega⟩
  · exact ⟨_, _, rfl, h3, h4⟩
theorem Ro.kept {R : RK α} {N : Nat} {w w' : World} {v : Value} {xs : List α} {row : Option Nat} (h : Ro R N w v xs) (hg : w.grownBy w' row) (hne : v.ownBlock = none ∨ v.ownBlock ≠ row) : Ro R N w' v xs := World.ownsRow.kept h hg hne
theorem Ro.out {R : RK α} {X : Nat → Prop} {N : Nat} {w w' : World} {v : Value} {xs : List α} (h : Ro R N w v xs) (hO : Out X w w') (hx : ∀ g, v.ownBlock = some g → ¬ X g) : Ro R N w' v xs := by
  refine ⟨h.1, ?_⟩
  rcases h.2 with h2 | ⟨g, cap, cur, rfl, hg, hb, r⟩
  · exact .inl h2
  · exact .inr ⟨g, cap, cur, rfl, hg, (hO.block g (Array.getElem?_eq_some_iff.1 hb).1 (hx g rfl)).trans hb, r⟩
theorem Ro.below {R : RK α} {N B : Nat} {w w' : World} {v : Value} {xs : List α} (h : Ro R N w v xs) (hB : Below B w w') (hs : w.heap.size ≤ B) : Ro R N w' v xs :=
  h.kept (row := none) ⟨hB.os, hB.tape, hB.output, hB.size, fun k hk _ => hB.block k (by omega)⟩ (by cases v.ownBlock <;> simp)
theorem Ro.alloc {R : RK α} {N : Nat} {w : World} {v : Value} {xs : List α} (h : Ro R N w v xs) (o : Obj) : Ro R N (w.alloc o) v xs :=
  h.kept (World.grownBy_alloc w o none) (by cases v.ownBlock <;> simp)
theorem Ro.lt {R : RK α} {N : Nat} {w : World} {v : Value} {xs : List α} (h : Ro R N w v xs) {g : Nat} (hg : v.ownBlock = some g) : N ≤ g ∧ g < w.heap.size := World.ownsRow.lt h g hg
theorem Ro.base {R : RK α} {N N' : Nat} {w : World} {v : Value} {xs : List α} (h : Ro R N w v xs) (hN : N' ≤ N) : Ro R N' w v xs := by
  refine ⟨h.1, ?_⟩
  rcases h.2 with h2 | ⟨g, cap, cur, hv, hg, r⟩
  · exact .inl h2
  · exact .inr ⟨g, cap, cur, hv, by omega, r⟩
/-- A thing of a row: its cells. -/
theorem Ro.at0 {R : RK α} {N : Nat} {w : World} {v : Value} {xs : List α} (h : Ro R N w v xs) (hp : 0 < xs.length) :
    ∃ g cap, v = .slice (some ⟨g, 0, none⟩) xs.length cap ∧ N ≤ g ∧ g < w.heap.size ∧ (∃ cur, w.heap[g]? = some (.cells cur R.E (0, 0))) ∧ ∀ i j (hi : i < xs.length), j < R.k → w.cell? ⟨g, i * R.k + j, none⟩ = (R.enc xs[i])[j]? := by
  rcases h.2 with ⟨_, h2⟩ | ⟨g, cap, cur, rfl, hN, hb, h3, h4, h5, h6⟩
  · omega
  · refine ⟨g, cap, rfl, hN, (Array.getElem?_eq_some_iff.1 hb).1, ⟨cur, hb⟩, fun i j hi hj => ?_⟩
    rw [← flat_get R xs i j hi hj, ← h6, List.getElem?_take_of_lt]
    · simp only [World.cell?, hb]
      simp
    · have := Nat.mul_le_mul_right R.k (show i + 1 ≤ xs.length from hi)
      rw [Nat.add_mul, Nat.one_mul] at this
      omega
/-- One thing more, written out by itself. -/
theorem run_append_ro (R : RK α) (ty : TypeId) (w : World) (N : Nat) (v : Value) (xs : List α) (x : α) (hv : Ro R N w v xs) (hlen : xs.length ≤ 1000000000) (hN : N ≤ w.heap.size) :
    ∃ v' w', (Builtin.append_ #[R.S, R.S] ty #[v, .slice (some ⟨w.heap.size, 0, none⟩) 1 1]).run Tryz.prog (w.alloc (.cells (R.enc x).toArray R.E)) = .ok v' w' ∧ Ro R N w' v' (xs ++ [x]) ∧ (w.alloc (.cells (R.enc x).toArray R.E)).grownBy w' v.ownBlock ∧ (v'.ownBlock = v.ownBlock ∨ v'.ownBlock = some (w.heap.size + 1)) := by
  obtain ⟨i0, hi, hz0, hz1, hz2⟩ := info_parts R.info
  obtain ⟨v', w', r1, r2, r3, _, r5⟩ := run_append_own_at (P := Tryz.prog) (w.alloc (.cells (R.enc x).toArray R.E)) N R.S ty R.E i0 R.z R.k R.bytes R.und hi hz0 hz1 hz2 R.zc R.pos v xs.length (xs.flatMap R.enc) (hv.alloc _) ⟨w.heap.size, 0, none⟩ 1 1 (R.enc x) (by rw [R.len, Nat.one_mul])
    (fun j u hj => by
      have hh : (w.alloc (.cells (R.enc x).toArray R.E)).heap[w.heap.size]? = some (.cells (R.enc x).toArray R.E) := heap_alloc_new w _
      rw [Addr.add_lit]
      simp only [World.cell?, hh]
      simpa using hj) (R.one x) (by unfold maxLen; omega) (Nat.le_trans (Nat.mul_le_mul_left _ R.by64) (by omega)) (by simp; omega)
  refine ⟨v', w', r1, ?_, r3, by simpa using r5⟩
  unfold Ro
  simpa using r2
/-- An append of one thing that was just written out, as a law of the walk. -/
theorem wpList_append_ro (R : RK α) {ops : Array Oper} {rest : List Oper} {o : Oper} {a : Act} {Q : Exit → Act → World → Prop} {w : World} (hgd : o.guard = none) (s y : Operand)
    (ho : o.op = .call { callee := .builtin .append, args := #[s, y], argTypes := #[R.S, R.S] })
    (N : Nat) (v : Value) (xs : List α) (x : α) (hs : a.eval s = v) (hv : Ro R N w v xs) {B : Nat} (hy : a.eval y = .slice (some ⟨B, 0, none⟩) 1 1) (hB : B = w.heap.size) (hlen : xs.length ≤ 1000000000) (hN : N ≤ w.heap.size)
    (h : ∀ v' w', Ro R N w' v' (xs ++ [x]) → (w.alloc (.cells (R.enc x).toArray R.E)).grownBy w' v.ownBlock → (v'.ownBlock = v.ownBlock ∨ v'.ownBlock = some (w.heap.size + 1)) → wpList Tryz.prog ops Q rest (a.put o.dst v') w') :
    wpList Tryz.prog ops Q (o :: rest) a (w.alloc (.cells (R.enc x).toArray R.E)) := by
  subst hB
  refine wpList_plain hgd fun K hK => ?_
  obtain ⟨v', w', hr, h2, h3, h4⟩ := run_append_ro R o.type w N v xs x hv hlen hN
  unfold Oper.wp execOp
  simp only [ho, resolve, invoke, builtin, Sem.run_bind, Sem.run_pure, Result.andThen_ok, List.map_toArray, List.map_cons, List.map_nil, hs, hy, hr]
  exact hK _ _ (h v' w' h2 h3 h4)

/-- One thing more, in a drawn region. -/
theorem step_append_ro (R : RK α) {ops : Array Oper} {o : Oper} {a : Act} {w : World} {K : Act → World → Prop} {Q : Exit → Act → World → Prop} {E : Prop}
    (hg : o.guard = none) (s y : Operand) (hop : o.op = Op.call { callee := Callee.builtin Builtin.append, args := #[s, y], argTypes := #[R.S, R.S] })
    (N : Nat) (v : Value) (xs : List α) (x : α) (hs : a.eval s = v) (hv : Ro R N w v xs) {B : Nat} (hy : a.eval y = .slice (some ⟨B, 0, none⟩) 1 1) (hB : w.heap[B]? = some (.cells (R.enc x).toArray R.E)) (hlen : xs.length ≤ 1000000000) (hN : N ≤ w.heap.size)
    (hK : ∀ v' w', Ro R N w' v' (xs ++ [x]) → w.grownBy w' v.ownBlock → (v'.ownBlock = v.ownBlock ∨ v'.ownBlock = some w.heap.size) → K (a.put o.dst v') w') :
    if Region.wanted o (yielded ops a.tmps) = true then Oper.wp Tryz.prog o a w K Q else E := by
  have hw : Region.wanted o (yielded ops a.tmps) = true := by simp [Region.wanted, hg]
  rw [if_pos hw]
  obtain ⟨i0, hi, hz0, hz1, hz2⟩ := info_parts R.info
  obtain ⟨v', w', hr, h2, h3, _, h4⟩ := run_append_own_at (P := Tryz.prog) w N R.S o.type R.E i0 R.z R.k R.bytes R.und hi hz0 hz1 hz2 R.zc R.pos v xs.length (xs.flatMap R.enc) hv ⟨B, 0, none⟩ 1 1 (R.enc x) (by rw [R.len, Nat.one_mul])
    (fun j u hj => by
      rw [Addr.add_lit]
      simp only [World.cell?, hB]
      simpa using hj) (R.one x) (by unfold maxLen; omega) (Nat.le_trans (Nat.mul_le_mul_left _ R.by64) (by omega)) hN
  unfold Oper.wp
  simp [execOp, hop, resolve, invoke, builtin, hs, hy, hr, Result.andThen]
  refine hK v' w' ?_ h3 h4
  unfold Ro
  simpa using h2

/-- A segment: its number, its bytes. -/
structure Sg where
  n : Nat
  b : Nat
def RSg : RK Sg where
  E := 135
  S := 111
  k := 2
  bytes := 16
  z := .agg #[.int .i64 0, .int .i64 0]
  enc := fun s => [.int .i64 (s.n : Int), .int .i64 (s.b : Int)]
  len := fun _ => rfl
  one := fun x v hv => by simp at hv; rcases hv with rfl | rfl <;> rfl
  pos := by decide
  und := Tryz.underlying111
  info := by kernel_rfl
  zc := rfl
  by64 := by decide
def RI : RK Nat where
  E := 3
  S := 81
  k := 1
  bytes := 8
  z := .int .i64 0
  enc := fun n => [.int .i64 (n : Int)]
  len := fun _ => rfl
  one := fun x v hv => by simp at hv; rcases hv with rfl; rfl
  pos := by decide
  und := Tryz.underlying81
  info := by kernel_rfl
  zc := rfl
  by64 := by decide
def RS : RK (List UInt8) where
  E := 9
  S := 76
  k := 1
  bytes := 16
  z := .string ByteArray.empty
  enc := fun l => [.string ⟨l.toArray⟩]
  len := fun _ => rfl
  one := fun x v hv => by simp at hv; rcases hv with rfl; rfl
  pos := by decide
  und := Tryz.underlying76
  info := by kernel_rfl
  zc := rfl
  by64 := by decide
end Go.Proofs.YtnahghldlkjleaaGreatDoor
namespace Go.Proofs.YtnahghldlkjleaaGreatDoor
open Go.RowKit
set_option linter.unusedVariables false

/-- A ledger, plainly: state, base and its term, entries, and where they stand. -/
structure LP where
  t : Int
  v : Int
  c : Int
  bi : Int
  bt : Int
  E : List En
  S : List Nat
def LP.li (P : LP) : Int := P.bi + (P.E.length : Int)
def LP.tm (P : LP) (i : Int) : Int := if i = P.bi then P.bt else eT (P.E.getD (i - P.bi - 1).toNat nilEn)
def LP.lt (P : LP) : Int := P.tm P.li
def LP.has (P : LP) (i t : Int) : Bool := if i = P.bi then t == P.bt else if i < P.bi ∨ P.li < i then false else t == P.tm i
/-- A number that a text may tell. -/
def Rng (n : Int) : Prop := 0 ≤ n ∧ n ≤ 4611686018427387904
structure LP.Ok (P : LP) : Prop where
  len : P.S.length = P.E.length
  b0 : Rng P.bi
  t0 : Rng P.bt
  top : P.li ≤ 4611686018427387904
  ix : ∀ k, k < P.E.length → eI (P.E.getD k nilEn) = P.bi + 1 + (k : Int)
  ck : ∀ e ∈ P.E, eCk e = 0
  st : Rng P.t ∧ Rng P.v ∧ Rng P.c
  few : P.E.length ≤ 1000000000
  sb : ∀ s ∈ P.S, s ≤ 99999999
theorem getD_mem {E : List En} {k : Nat} (h : k < E.length) : E.getD k nilEn ∈ E := by
  rw [List.getD_eq_getElem?_getD, List.getElem?_eq_getElem h]; exact List.getElem_mem h
theorem LP.Ok.tms {P : LP} (h : P.Ok) {k : Nat} (hk : k < P.E.length) : Rng (eT (P.E.getD k nilEn)) := by
  have := eCk_ok (h.ck _ (getD_mem hk))
  exact ⟨by omega, by omega⟩
theorem LP.Ok.lim {P : LP} (h : P.Ok) : Rng P.li := by
  have := h.b0
  have := h.top
  unfold Rng at *
  refine ⟨?_, this⟩
  unfold LP.li at *
  omega
theorem LP.tm_ent (P : LP) {k : Nat} : P.tm (P.bi + 1 + (k : Int)) = eT (P.E.getD k nilEn) := by
  unfold LP.tm
  rw [if_neg (by omega)]
  congr 2
  omega
theorem LP.tm_base (P : LP) : P.tm P.bi = P.bt := by unfold LP.tm; rw [if_pos rfl]

/-! ### in memory -/
def rdF (v : Value) : Option (DataW Value × List MemPlace) := some (.held v, [])
theorem rdF_inv {v u : Value} {ps : List MemPlace} (h : rdF v = some (.held u, ps)) : v = u := by
  simp [rdF] at h; exact h.1
/-- What a record does, by its kind: a closure over the ledger. -/
def chV (k b : Nat) : Value := .func (.func k) #[] #[.pointer (some ⟨b, 0, none⟩)]
def chD (c b : Nat) : DataW Value := .map [(.int .i64 0, .held (.func (.func 154) #[] #[])), (.int .i64 1, .held (chV 155 c)), (.int .i64 2, .held (chV 156 c)), (.int .i64 3, .held (chV 158 c))]
theorem ownsMap_outF {X : Nat → Prop} {w w' : World} {k : TypeId} {b n : Nat} {D : DataW Value} (h : w.ownsMap Tryz.prog k rdF b n D) (hO : Out X w w') (hx : ¬ X b) : w'.ownsMap Tryz.prog k rdF b n D := by
  have hlt := h.lt
  obtain ⟨es, clock, hb, r⟩ := h
  exact ⟨es, clock, (hO.block b hlt hx).trans hb, r⟩
/-- The box that the closures hold points to the ledger. -/
def Bxd (w : World) (c b : Nat) : Prop := ∃ z, w.heap[c]? = some (.cells #[.pointer (some ⟨b, 0, none⟩)] 112 z)

/-- Block b holds a ledger; its blocks lie in L. -/
structure Lj (L : Nat → Prop) (w : World) (b : Nat) (P : LP) : Prop where
  at_ : ∃ ev es sv mb c, w.heap[b]? = some (.cells #[.int .i64 P.t, .int .i64 P.v, .int .i64 P.c, .int .i64 P.bi, .int .i64 P.bt, ev, sv, .map (some mb)] 132 (0, 0)) ∧ EntsOw 0 w ev es ∧ es.map Ent.says = P.E ∧ Ro RI 0 w sv P.S ∧ w.ownsMap Tryz.prog 3 rdF mb 4 (chD c b) ∧ Bxd w c b ∧ L mb ∧ L c ∧ (∀ g, ev.ownBlock = some g → L g) ∧ (∀ e ∈ es, ∀ g, e.x.ownBlock = some g → L g) ∧ (∀ g, sv.ownBlock = some g → L g)
  ok : P.Ok
  Lb : L b
  inn : ∀ i, L i → i < w.heap.size
theorem Bxd.out {X : Nat → Prop} {w w' : World} {c b : Nat} (h : Bxd w c b) (hO : Out X w w') (hx : ¬ X c) : Bxd w' c b := by
  obtain ⟨z, hz⟩ := h
  exact ⟨z, (hO.block c (Array.getElem?_eq_some_iff.1 hz).1 hx).trans hz⟩
theorem Lj.out {L X : Nat → Prop} {w w' : World} {b : Nat} {P : LP} (h : Lj L w b P) (hO : Out X w w') (hx : ∀ i, L i → ¬ X i) : Lj L w' b P := by
  obtain ⟨ev, es, sv, mb, c, hb, ho, hs, hr, hm, hc, l1, l2, l3, l4, l5⟩ := h.at_
  exact ⟨⟨ev, es, sv, mb, c, (hO.block b (h.inn _ h.Lb) (hx _ h.Lb)).trans hb, ho.out hO (fun g hg => hx _ (l3 g hg)) (fun e he g hg => hx _ (l4 e he g hg)), hs, hr.out hO (fun g hg => hx _ (l5 g hg)), ownsMap_outF hm hO (hx _ l1), hc.out hO (hx _ l2), l1, l2, l3, l4, l5⟩, h.ok, h.Lb, fun i hi => Nat.lt_of_lt_of_le (h.inn i hi) hO.size⟩
theorem Lj.below {L : Nat → Prop} {w w' : World} {b : Nat} {P : LP} (h : Lj L w b P) (hB : Below w.heap.size w w') : Lj L w' b P :=
  h.out (X := fun _ => False) (Out.of_below hB) (fun _ _ hf => hf)
/-- Behind a call the ledger is P; nothing else has turned. -/
structure JTh (L : Nat → Prop) (w w' : World) (b : Nat) (P : LP) : Prop where
  q : Lj (grew L w w') w' b P
  out : Out L w w'
  byt : ∀ (i : Nat) (c : Array Value) (z : Nat × Nat), w.heap[i]? = some (.cells c 5 z) → w'.heap[i]? = some (.cells c 5 z)
theorem grew_grew {X : Nat → Prop} {w a b : World} (h1 : w.heap.size ≤ a.heap.size) (h2 : a.heap.size ≤ b.heap.size) : grew (grew X w a) a b = grew X w b := by
  funext i
  apply propext
  unfold grew
  constructor
  · rintro ((h | h) | h)
    · exact .inl h
    · exact .inr ⟨h.1, by omega⟩
    · exact .inr ⟨by omega, h.2⟩
  · rintro (h | h)
    · exact .inl (.inl h)
    · by_cases hi : i < a.heap.size
      · exact .inl (.inr ⟨h.1, hi⟩)
      · exact .inr ⟨by omega, h.2⟩
theorem JTh.trans {L : Nat → Prop} {w wr w2 : World} {b : Nat} {P P2 : LP} (h : JTh L w wr b P) (k : JTh (grew L w wr) wr w2 b P2) : JTh L w w2 b P2 :=
  ⟨by rw [← grew_grew h.out.size k.out.size]; exact k.q, h.out.step k.out, fun i c z hi => k.byt i c z (h.byt i c z hi)⟩
/-- Rows of bytes stay. -/
theorem JTh.ow {L : Nat → Prop} {w w' : World} {b : Nat} {P : LP} (h : JTh L w w' b P) {N : Nat} {v : Value} {l : List UInt8} (ho : Ow N w v l) : Ow N w' v l := by
  refine ⟨ho.1, ?_⟩
  rcases ho.2 with h2 | ⟨g, cap, cur, rfl, hg, hb, r⟩
  · exact .inl h2
  · exact .inr ⟨g, cap, cur, rfl, hg, h.byt _ _ _ hb, r⟩
/-- More blocks may be said to be the ledger's. -/
theorem Lj.wide {L M : Nat → Prop} {w : World} {b : Nat} {P : LP} (h : Lj L w b P) (hM : ∀ i, L i → M i) (hi : ∀ i, M i → i < w.heap.size) : Lj M w b P := by
  obtain ⟨ev, es, sv, mb, c, hb, ho, hs, hr, hm, hc, l1, l2, l3, l4, l5⟩ := h.at_
  exact ⟨⟨ev, es, sv, mb, c, hb, ho, hs, hr, hm, hc, hM _ l1, hM _ l2, fun g hg => hM _ (l3 g hg), fun e he g hg => hM _ (l4 e he g hg), fun g hg => hM _ (l5 g hg)⟩, h.ok, hM _ h.Lb, hi⟩
theorem Lj.th {L : Nat → Prop} {w w' : World} {b : Nat} {P : LP} (h : Lj L w b P) (hB : Below w.heap.size w w') : JTh L w w' b P :=
  ⟨(h.below hB).wide (fun i hi => .inl hi) (fun i hi => hi.elim (fun h2 => (h.below hB).inn i h2) (fun h2 => h2.2)), Out.of_below hB, fun i c z hi => (hB.block i (Array.getElem?_eq_some_iff.1 hi).1).trans hi⟩

theorem cells8 {w : World} {b : Nat} {t : TypeId} {v0 v1 v2 v3 v4 v5 v6 v7 : Value} (h : w.heap[b]? = some (.cells #[v0, v1, v2, v3, v4, v5, v6, v7] t (0, 0))) :
    (w.cell? ⟨b, 0, none⟩ = some v0 ∧ w.cell? ⟨b, 1, none⟩ = some v1 ∧ w.cell? ⟨b, 2, none⟩ = some v2 ∧ w.cell? ⟨b, 3, none⟩ = some v3 ∧ w.cell? ⟨b, 4, none⟩ = some v4 ∧ w.cell? ⟨b, 5, none⟩ = some v5 ∧ w.cell? ⟨b, 6, none⟩ = some v6 ∧ w.cell? ⟨b, 7, none⟩ = some v7) ∧ ∀ o, w.frozen? ⟨b, o, none⟩ = false := by
  refine ⟨⟨?_, ?_, ?_, ?_, ?_, ?_, ?_, ?_⟩, ?_⟩
  all_goals (first | (simp only [World.cell?, h]; rfl) | skip)
  intro o
  simp [World.frozen?, h]
/-- A ledger, opened. -/
theorem Lj.cells {L : Nat → Prop} {w : World} {b : Nat} {P : LP} (h : Lj L w b P) :
    ∃ va vc sa sc es mb c, w.heap[b]? = some (.cells #[.int .i64 P.t, .int .i64 P.v, .int .i64 P.c, .int .i64 P.bi, .int .i64 P.bt, .slice va P.E.length vc, .slice sa P.E.length sc, .map (some mb)] 132 (0, 0)) ∧ EntsOw 0 w (.slice va P.E.length vc) es ∧ es.map Ent.says = P.E ∧ es.length = P.E.length ∧ P.E.length ≤ vc ∧ vc ≤ maxLen ∧ P.E.length ≤ sc ∧ sc ≤ maxLen ∧ Ro RI 0 w (.slice sa P.E.length sc) P.S ∧ w.ownsMap Tryz.prog 3 rdF mb 4 (chD c b) ∧ Bxd w c b ∧ L mb ∧ L c ∧ (∀ g, (Value.slice va P.E.length vc).ownBlock = some g → L g) ∧ (∀ e ∈ es, ∀ g, e.x.ownBlock = some g → L g) ∧ (∀ g, (Value.slice sa P.E.length sc).ownBlock = some g → L g) := by
  obtain ⟨ev, es, sv, mb, c, hb, ho, hs, hr, hm, hc, l1, l2, l3, l4, l5⟩ := h.at_
  obtain ⟨va, vc, rfl, h3, h4⟩ := ho.shape
  obtain ⟨sa, sc, rfl, h5, h6⟩ := hr.shape
  have hl : es.length = P.E.length := by rw [← hs]; simp
  rw [hl] at hb ho l3 h3
  rw [h.ok.len] at hb hr l5 h5
  exact ⟨va, vc, sa, sc, es, mb, c, hb, ho, hs, hl, h3, h4, h5, h6, hr, hm, hc, l1, l2, l3, l4, l5⟩
theorem ent_says {es : List Ent} {E : List En} (hs : es.map Ent.says = E) (k : Nat) : (es.getD k nilEnt).t = eT (E.getD k nilEn) ∧ (es.getD k nilEnt).i = eI (E.getD k nilEn) ∧ (es.getD k nilEnt).k = eK (E.getD k nilEn) ∧ (es.getD k nilEnt).d = eD (E.getD k nilEn) := by
  rw [← hs, says_getD]
  exact ⟨rfl, rfl, rfl, rfl⟩

set_option maxRecDepth 100000 in
set_option maxHeartbeats 1000000 in
/-- last. -/
theorem last_any {L : Nat → Prop} {w : World} {b : Nat} {P : LP} (h : Lj L w b P) :
    Calls Tryz.prog 52 #[.pointer (some ⟨b, 0, none⟩)] w fun e w' => e = .returned (.tuple #[.int .i64 P.li, .int .i64 P.lt]) ∧ ∃ n, w' = w.drewN n := by
  obtain ⟨va, vc, sa, sc, es, mb, c, hb, ho, hs, hl, hvc, hvm, -⟩ := h.cells
  obtain ⟨⟨-, -, -, c3, c4, c5, -, -⟩, -⟩ := cells8 hb
  by_cases hz : P.E.length = 0
  · have HL : Hid (P.li = P.bi ∧ P.lt = P.bt) := by
      have : P.li = P.bi := by unfold LP.li; omega
      exact ⟨this, by unfold LP.lt; rw [this, LP.tm_base]⟩
    rw [HL.out.1, HL.out.2]
    rw [hz] at c5
    clear h hb ho hs hl hvc hvm
    go_enter Tryz.func52, Tryz.ntmps52
    go_wp2
    go_quiet (fail)
    go_wp2
    go_ret2
    exact ⟨rfl, _, rfl⟩
  · obtain ⟨n, hn⟩ : ∃ n, P.E.length = n + 1 := ⟨P.E.length - 1, by omega⟩
    have hat := EntsOw.at (es := es) (by rw [hl]; exact ho)
    obtain ⟨g, off, rfl, hg, e0, e1, -⟩ := hat.at (i := n) (by omega)
    obtain ⟨s1, s2, -⟩ := ent_says hs n
    rw [s1] at e0
    rw [s2, h.ok.ix n (by omega)] at e1
    have HL : Hid (P.li = P.bi + 1 + (n : Int) ∧ P.lt = eT (P.E.getD n nilEn)) := by
      have : P.li = P.bi + 1 + (n : Int) := by unfold LP.li; omega
      exact ⟨this, by unfold LP.lt; rw [this, LP.tm_ent]⟩
    rw [HL.out.1, HL.out.2]
    have hlen := h.ok.few
    have hw : IntKind.i64.wrap ((P.E.length : Int) - 1) = (n : Int) := by rw [IntKind.wrap_i64]; omega
    have i0 : (0 : Int) ≤ (n : Int) := by omega
    have i1 : (n : Int) < (P.E.length : Int) := by omega
    have hp : (0 : Int) < (P.E.length : Int) := by omega
    generalize eT (P.E.getD n nilEn) = tn at *
    clear h hb ho hs hl hvm s1 s2 hat hn hz hlen
    generalize P.E.length = m at *
    go_enter Tryz.func52, Tryz.ntmps52
    go_wp2
    go_quiet (fail)
    go_wp2
    go_ret2
    exact ⟨rfl, _, rfl⟩
end Go.Proofs.YtnahghldlkjleaaGreatDoor
namespace Go.Proofs.YtnahghldlkjleaaGreatDoor
open Go.RowKit
set_option linter.unusedVariables false

theorem infoParts : ∃ i0, Tryz.prog.info? 88 = some i0 ∧ i0.zero = some (.agg #[.int .i64 0, .int .i64 0, .int .i64 0, .slice none 0 0]) ∧ i0.size = 4 ∧ i0.bytes = 48 := info_parts infoE
theorem heap_setCells (g : Nat) : ∀ (vs : List Value) (o : Nat) (w : World) (cur : Array Value) (t : TypeId) (z : Nat × Nat), w.heap[g]? = some (.cells cur t z) →
    ∃ cur', (w.setCells g o vs).heap[g]? = some (.cells cur' t z) ∧ cur'.size = cur.size ∧ ∀ j, j < o → cur'.toList[j]? = cur.toList[j]?
  | [], o, w, cur, t, z, h => ⟨cur, h, rfl, fun _ _ => rfl⟩
  | v :: r, o, w, cur, t, z, h => by
    obtain ⟨cur', h1, h2, h3⟩ := heap_setCells g r (o + 1) (w.setCell ⟨g, o, none⟩ v) (cur.setIfInBounds o v) t z (heap_set h o v)
    refine ⟨cur', h1, by simpa using h2, fun j hj => ?_⟩
    rw [h3 j (by omega), Array.toList_setIfInBounds, List.getElem?_set_ne (by omega)]
theorem out_setCells (g : Nat) : ∀ (vs : List Value) (o : Nat) (w : World), Out (fun i => i = g) w (w.setCells g o vs) ∧ (w.setCells g o vs).heap.size = w.heap.size
  | [], o, w => ⟨Out.refl _ _, rfl⟩
  | v :: r, o, w => by
    obtain ⟨h1, h2⟩ := out_setCells g r (o + 1) (w.setCell ⟨g, o, none⟩ v)
    exact ⟨(Out.set (X := fun i => i = g) rfl).trans h1 (fun i hi _ => hi), h2.trans (size_set _ _ _)⟩

theorem run_clear_ents (w : World) (ty : TypeId) (b o n c : Nat) (hn : 0 < n) (hc : ∀ j, j < n * 4 → (w.cell? ⟨b, o + j, none⟩).isSome = true) (hf : ∀ j, j < n * 4 → w.frozen? ⟨b, o + j, none⟩ = false) :
    ∃ zs, (Builtin.clear_ #[37] ty #[.slice (some ⟨b, o, none⟩) n c]).run Tryz.prog w = .ok (.tuple #[]) (w.setCells b o zs) := by
  obtain ⟨zs, hzs⟩ : ∃ zs, (Builtin.zeroCells (Value.agg #[.int .i64 0, .int .i64 0, .int .i64 0, .slice none 0 0]).cells n).toList = zs := ⟨_, rfl⟩
  have hlen : zs.length = n * 4 := by rw [← hzs]; simp [Builtin.zeroCells, Value.cells]; try omega
  have h1 : ∀ v ∈ zs, v.oneCell' = true := by
    intro v hv
    rw [← hzs] at hv
    simp [Builtin.zeroCells, Value.cells] at hv
    obtain ⟨a, ha, rfl⟩ := hv
    have : a % 4 = 0 ∨ a % 4 = 1 ∨ a % 4 = 2 ∨ a % 4 = 3 := by omega
    rcases this with e | e | e | e <;> simp [e, Value.oneCell']
  have hst := run_storeCells_cells (P := Tryz.prog) b o zs 0 w (by rw [hlen]; simpa using hc) (by rw [hlen]; simpa using hf) h1
  simp only [Nat.add_zero] at hst
  obtain ⟨m, rfl⟩ : ∃ m, n = m + 1 := ⟨n - 1, by omega⟩
  exact ⟨zs, by simp [Builtin.clear_, run_underlying Tryz.underlying37, hzs, hst]⟩

set_option maxRecDepth 100000 in
set_option maxHeartbeats 4000000 in
/-- slices.Delete, from a place to the end. -/
theorem delete_any (va : Option Addr) (cap k : Nat) (es : List Ent) (w : World) (h : EntsOw 0 w (.slice va es.length cap) es) (hk : k ≤ es.length) (hn : es.length ≤ 1000000000) :
    Calls Tryz.prog 141 #[.slice va es.length cap, .int .i64 (k : Int), .int .i64 (es.length : Int)] w fun e w' => e = .returned (.slice va k cap) ∧ EntsOw 0 w' (.slice va k cap) (es.take k) ∧ Out (fun i => (Value.slice va es.length cap).ownBlock = some i) w w' ∧ w'.heap.size = w.heap.size := by
  have hshape := h.shape
  obtain ⟨_, _, heq, hlc, hcm⟩ := hshape
  cases heq
  unfold maxLen at hcm
  have htl : (es.take k).length = k := by simp; omega
  by_cases hkn : k = es.length
  · subst hkn
    have HE : Hid (EntsOw 0 w (.slice va es.length cap) (es.take es.length)) := by show EntsOw _ _ _ _; rw [List.take_length]; exact h
    clear h htl
    generalize es.length = n at *
    cases va with
    | none =>
      go_enter Tryz.func141, Tryz.ntmps141
      go_wp2
      all_goals (go_ret; exact ⟨rfl, HE.out, Out.refl _ _, rfl⟩)
    | some a =>
      go_enter Tryz.func141, Tryz.ntmps141
      go_wp2
      all_goals (go_ret; exact ⟨rfl, HE.out, Out.refl _ _, rfl⟩)
  · have hlt : k < es.length := by omega
    rcases h.row.2 with ⟨hv, hz⟩ | ⟨g, cap', cur, hv, -, hgb, hc1, hc2, hc3, hc4⟩
    · omega
    · simp only [Value.slice.injEq, true_and] at hv
      obtain ⟨rfl, rfl⟩ := hv
      have hcl0 : ∀ ty, ∃ zs, (Builtin.clear_ #[37] ty #[.slice (some ⟨g, k * 4, none⟩) (es.length - k) (cap - k)]).run Tryz.prog w.drew = .ok (.tuple #[]) (w.drew.setCells g (k * 4) zs) := fun ty => by
        refine run_clear_ents w.drew ty g (k * 4) (es.length - k) (cap - k) (by omega) (fun j hj => ?_) (fun j hj => ?_)
        · show (w.cell? _).isSome = true
          simp only [World.cell?, hgb]
          rw [Array.getElem?_eq_getElem (by omega)]
          rfl
        · show w.frozen? _ = false
          simp [World.frozen?, hgb]
      have HF : Hid (∀ zs, EntsOw 0 (w.drew.setCells g (k * 4) zs) (.slice (some ⟨g, 0, none⟩) k cap) (es.take k) ∧ Out (fun i => (Value.slice (some ⟨g, 0, none⟩) es.length cap).ownBlock = some i) w (w.drew.setCells g (k * 4) zs) ∧ (w.drew.setCells g (k * 4) zs).heap.size = w.heap.size) := fun zs => by
        obtain ⟨cur', q1, q2, q3⟩ := heap_setCells g zs (k * 4) w.drew cur 88 (0, 0) hgb
        obtain ⟨o1, o2⟩ := out_setCells g zs (k * 4) w.drew
        have o3 : Out (fun i => i = g) w (w.drew.setCells g (k * 4) zs) := ⟨o1.os, o1.tape, o1.output, o1.size, o1.block⟩
        refine ⟨⟨⟨entCells_length _, .inr ⟨g, cap, cur', by rw [htl], Nat.zero_le _, q1, by omega, hc2, by omega, ?_⟩⟩, fun e he => ?_⟩, o3.mono (fun i hi => by simp [Value.ownBlock, hi]), o2⟩
        · rw [htl, entCells_take, ← hc4, List.take_take, Nat.min_eq_left (by omega)]
          apply List.ext_getElem?
          intro j
          rw [List.getElem?_take, List.getElem?_take]
          by_cases hj : j < k * 4
          · rw [if_pos hj, if_pos hj, q3 j hj]
          · rw [if_neg hj, if_neg hj]
        · have he' := List.mem_of_mem_take he
          exact (h.dat e he').out o3 (by rintro i hi rfl; exact (h.dat e he').not_at hgb (by decide) hi)
      obtain ⟨i0, hi, hz0, hz1, hz2⟩ := infoParts
      obtain ⟨A, hA⟩ : ∃ A : Addr, (if cap = es.length then some (⟨g, 0, none⟩ : Addr) else some ⟨g, es.length * 4, none⟩) = some A := by
        by_cases h : cap = es.length
        · exact ⟨_, if_pos h⟩
        · exact ⟨_, if_neg h⟩
      have hkc : k ≤ cap := by omega
      have hkc' : k < cap := by omega
      have hkc'' : ¬ cap = k := by omega
      have hne : ((k : Int) == (es.length : Int)) = false := by simp; omega
      obtain ⟨zs, hcl⟩ := hcl0 0
      have hclT : ∀ ty, (Builtin.clear_ #[37] ty #[.slice (some ⟨g, k * 4, none⟩) (es.length - k) (cap - k)]).run Tryz.prog w.drew = .ok (.tuple #[]) (w.drew.setCells g (k * 4) zs) := fun ty => by rw [← hcl]; rfl
      have HFz : Hid (_ ∧ _ ∧ _) := HF.out zs
      have hsz : w.drew.setCells g (k * 4) [] = w.drew := rfl
      clear h hc3 hc4 hgb hcl0 hcl HF htl hkn
      generalize w.drew.setCells g (k * 4) zs = W9 at *
      generalize es.length = n at *
      go_enter Tryz.func141, Tryz.ntmps141
      go_wp2_with fail
      go_region_law (refine step_append_room rfl (.tmp 22) (.tmp 25) 37 rfl 88 i0 4 Tryz.underlying37 hi hz1 g 0 k cap (by simp [Act.eval, Act.put]) A 0 (cap - n) [] (by simp [Act.eval, Act.put]; try exact hA) (by simp) (by simp) (by simp) (by omega) (by simp) ?_; rw [Nat.zero_add, hsz])
      go_wp2
      go_ret
      exact ⟨rfl, HFz.out⟩
end Go.Proofs.YtnahghldlkjleaaGreatDoor
