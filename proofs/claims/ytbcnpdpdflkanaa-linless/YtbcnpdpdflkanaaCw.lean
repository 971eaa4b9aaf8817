/-
  Regions that draw their order, whose operations read and whose callees make new memory alone: one walk.
-/
import Derived.Test.YtbcnpdpdflkanaaTk
import Derived.Laws.BitsAllLaws
namespace Go.Proofs.Ytbcnpdpdflkanaa
open Go.RowKit

/-- A world in which nothing of W has turned. -/
structure Cw (W : World) where
  w : World
  b : Below W.heap.size W w

theorem wp_region_cw {W : World} {id : Nat} {Q : Exit → Act → World → Prop} {a : Act} {w : World} {l : List Oper} (hm : Try.prog.follows .mixedOrders = true) (hB : Region.lexB .any l.toArray = true) (hw : Below W.heap.size W w)
    (h : wpQuiet Try.prog l.toArray (fun w' => ∃ z : Cw W, w' = z.w) (fun a' => ∀ w', (∃ z : Cw W, w' = z.w) → Q .normal a' w') l a) : (Code.region id l.toArray true).wp Try.prog Q a w :=
  wp_region_quiet (C := fun w' => ∃ z : Cw W, w' = z.w) hm hB ⟨⟨w.drew, hw.drew⟩, rfl⟩ (by simpa using h)

theorem Cw.cell {W : World} (z : Cw W) {b o : Nat} {v : Value} (h : W.cell? ⟨b, o, none⟩ = some v) : z.w.cell? ⟨b, o, none⟩ = some v :=
  (z.b.cell (p := ⟨b, o, none⟩) (World.block_lt_of_cell? W _ h)).trans h
theorem Cw.calls {W : World} (z : Cw W) {f : FuncId} {args : Array Value} {v : Value} (h : ∀ w, Calls Try.prog f args w fun e w' => e = .returned v ∧ Below w.heap.size w w') : Calls Try.prog f args z.w fun e w'' => e = .returned v ∧ ∃ z' : Cw W, w'' = z'.w :=
  (h z.w).mono fun _ _ ⟨he, hb⟩ => ⟨he, ⟨_, z.b.trans (hb.mono z.b.size)⟩, rfl⟩
end Go.Proofs.Ytbcnpdpdflkanaa
