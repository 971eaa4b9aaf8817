/-
  The records of a batch.
-/
import Derived.Test.YtnahghldlkjleaaGreatDoorXH
namespace Go.Proofs.YtnahghldlkjleaaGreatDoor
open Go.RowKit
set_option linter.unusedVariables false

def rSt (sg : Nat) (t v c : Int) : Rd := ⟨1, sg, t, v, c, 0, 0, nilEnt⟩
def rMk (sg : Nat) (i tm : Int) : Rd := ⟨3, sg, 0, 0, 0, i, tm, nilEnt⟩
def rEn (sg : Nat) (e : Ent) : Rd := ⟨2, sg, 0, 0, 0, 0, 0, e⟩
def Bt.c1 (B : Bt) (P : LP) : Bool := B.has && (B.t != P.t || B.v != P.v)
def Bt.c2 (B : Bt) (P : LP) : Bool := B.has && B.c != P.c
def Bt.r1 (B : Bt) (P : LP) (sg : Nat) : List Rd := if B.c1 P then [rSt sg B.t B.v P.c] else []
def Bt.r2 (B : Bt) (P : LP) (sg : Nat) : List Rd := if P.news B.i B.tm then [rMk sg B.i B.tm] else []
def Bt.r4 (B : Bt) (P : LP) (sg : Nat) : List Rd := if B.c2 P then [rSt sg B.t B.v B.c] else []
/-- The records of a batch whose entries are these. -/
def Bt.recs (B : Bt) (P : LP) (sg : Nat) (es : List Ent) : List Rd := B.r1 P sg ++ B.r2 P sg ++ es.map (rEn sg) ++ B.r4 P sg
theorem cells3' {w : World} {b : Nat} {t : TypeId} {v0 v1 v2 : Value} (h : w.heap[b]? = some (.cells #[v0, v1, v2] t (0, 0))) :
    (w.cell? ⟨b, 0, none⟩ = some v0 ∧ w.cell? ⟨b, 1, none⟩ = some v1 ∧ w.cell? ⟨b, 2, none⟩ = some v2) ∧ ∀ o, w.frozen? ⟨b, o, none⟩ = false := by
  refine ⟨⟨?_, ?_, ?_⟩, ?_⟩
  all_goals (first | (simp only [World.cell?, h]; rfl) | skip)
  intro o
  simp [World.frozen?, h]
theorem set3 {w : World} {B : Nat} {x0 x1 x2 : Value} {t : TypeId} (h : w.heap[B]? = some (.cells #[x0, x1, x2] t (0, 0))) (y0 y1 y2 : Value) :
    (((w.setCell ⟨B, 0, none⟩ y0).setCell ⟨B, 1, none⟩ y1).setCell ⟨B, 2, none⟩ y2).heap[B]? = some (.cells #[y0, y1, y2] t (0, 0)) := by
  rw [heap_set (heap_set (heap_set h 0 y0) 1 y1) 2 y2]; rfl

/-- Bytes stay where a row of records grows. -/
theorem ow_push {N M : Nat} {w2 w5 : World} {v u : Value} {l : List UInt8} {xs : List Rd} {o : Obj} (hq : Ow N w2 v l) (hr : Ro RR M w2 u xs) (hg : (w2.alloc o).grownBy w5 u.ownBlock) : Ow N w5 v l := by
  refine (hq.alloc o).kept hg ?_
  cases hv : u.ownBlock with
  | none => cases hqv : v.ownBlock with
    | none => exact .inl rfl
    | some g => exact .inr (fun e => by cases e)
  | some g =>
    obtain ⟨cur, hg⟩ := hr.obj hv
    exact .inr (hq.not_at' hg (fun c z e => by cases e))
end Go.Proofs.YtnahghldlkjleaaGreatDoor
