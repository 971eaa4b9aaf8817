/-
  Entries in memory: a list of them, as the walks read it.
-/
import Derived.Test.YtfnnbfgfmbiababMsgC1
namespace Go.Proofs.Ytfnnbfgfmbiabab
open Go.RowKit Go.Shelf

/-- An entry, as it lies in memory. -/
structure Ent where
  t : Int
  i : Int
  k : Int
  a : Option Addr
  c : Nat
  d : List UInt8

/-- No entry. -/
def nilEnt : Ent := ⟨0, 0, 0, none, 0, []⟩
def Ent.x (e : Ent) : Value := .slice e.a e.d.length e.c
def Ent.ck (e : Ent) : Nat := ckEntry e.t e.i e.k e.d.length
/-- What an entry says. -/
def Ent.says (e : Ent) : Int × Int × Int × List UInt8 := (e.t, e.i, e.k, e.d)

/-- One entry lies at a place. -/
def EntAt (N : Nat) (w : World) (b off : Nat) (e : Ent) : Prop :=
  w.cell? ⟨b, off, none⟩ = some (.int .i64 e.t) ∧ w.cell? ⟨b, off + 1, none⟩ = some (.int .i64 e.i) ∧ w.cell? ⟨b, off + 2, none⟩ = some (.int .i64 e.k) ∧ w.cell? ⟨b, off + 3, none⟩ = some e.x ∧ Sl N w e.x e.d

/-- A list of entries, in blocks below N. -/
def EntsAt (N : Nat) (w : World) (a : Option Addr) (es : List Ent) : Prop :=
  es = [] ∨ ∃ b off, a = some ⟨b, off, none⟩ ∧ b < N ∧ ∀ i, i < es.length → EntAt N w b (off + i * 4) (es.getD i nilEnt)

theorem EntAt.below {N : Nat} {w w' : World} {b off : Nat} {e : Ent} (h : EntAt N w b off e) (hb : b < N) (hB : Below N w w') : EntAt N w' b off e :=
  ⟨(hB.cell (p := ⟨b, off, none⟩) hb).trans h.1, (hB.cell (p := ⟨b, off + 1, none⟩) hb).trans h.2.1, (hB.cell (p := ⟨b, off + 2, none⟩) hb).trans h.2.2.1, (hB.cell (p := ⟨b, off + 3, none⟩) hb).trans h.2.2.2.1, h.2.2.2.2.below hB⟩
theorem EntsAt.below {N : Nat} {w w' : World} {a : Option Addr} {es : List Ent} (h : EntsAt N w a es) (hB : Below N w w') : EntsAt N w' a es := by
  rcases h with h | ⟨b, off, ha, hb, hc⟩
  · exact .inl h
  · exact .inr ⟨b, off, ha, hb, fun i hi => (hc i hi).below hb hB⟩
theorem EntAt.mono {N M : Nat} {w : World} {b off : Nat} {e : Ent} (h : EntAt N w b off e) (hM : N ≤ M) : EntAt M w b off e := ⟨h.1, h.2.1, h.2.2.1, h.2.2.2.1, h.2.2.2.2.mono hM⟩
theorem EntsAt.mono {N M : Nat} {w : World} {a : Option Addr} {es : List Ent} (h : EntsAt N w a es) (hM : N ≤ M) : EntsAt M w a es := by
  rcases h with h | ⟨b, off, ha, hb, hc⟩
  · exact .inl h
  · exact .inr ⟨b, off, ha, by omega, fun i hi => (hc i hi).mono hM⟩
theorem EntsAt.at {N : Nat} {w : World} {a : Option Addr} {es : List Ent} (h : EntsAt N w a es) {i : Nat} (hi : i < es.length) : ∃ b off, a = some ⟨b, off, none⟩ ∧ b < N ∧ EntAt N w b (off + i * 4) (es.getD i nilEnt) := by
  rcases h with h | ⟨b, off, ha, hb, hc⟩
  · subst h; simp at hi
  · exact ⟨b, off, ha, hb, hc i hi⟩

/-- The first error of entries. -/
def firstErr : List Ent → Nat
  | [] => 0
  | e :: r => if e.ck ≠ 0 then e.ck else firstErr r
/-- Do they go on from a place, up to a term? -/
def goes (tm : Int) : Int → Int → List Ent → Bool
  | _, _, [] => true
  | ix, lt, e :: r => (e.i == ix + 1) && isIn e.t lt tm && goes tm (ix + 1) e.t r

theorem drop_at {l : List Ent} {k : Nat} (h : k < l.length) : l.drop k = l.getD k nilEnt :: l.drop (k + 1) := by
  rw [List.drop_eq_getElem_cons h, List.getD_eq_getElem?_getD, List.getElem?_eq_getElem h]; rfl
end Go.Proofs.Ytfnnbfgfmbiabab
