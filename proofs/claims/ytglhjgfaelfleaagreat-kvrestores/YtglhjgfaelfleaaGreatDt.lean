/-
  The document's store: Get, and what a command does to the keys.
-/
import Derived.Test.YtglhjgfaelfleaaGreatDs
import Derived.Test.YtglhjgfaelfleaaGreatLp
namespace Go.Proofs.YtglhjgfaelfleaaGreat
open Go.RowKit
set_option linter.unusedVariables false

theorem below_set {N : Nat} {w W : World} {r o : Nat} {u : Value} (h : Below N w W) (hw : N ≤ W.heap.size) (hr : N ≤ r) : Below N w (W.setCell ⟨r, o, none⟩ u) := h.grown (grown_set W r o u) hw (fun k e => by cases e; exact hr)
theorem below_set2 {w W : World} {r o o' : Nat} {u u' : Value} (h : Below w.heap.size w W) (hr : w.heap.size ≤ r) : Below w.heap.size w ((W.setCell ⟨r, o, none⟩ u).setCell ⟨r, o', none⟩ u') :=
  below_set (below_set h h.size hr) (by rw [size_set]; exact h.size) hr

end Go.Proofs.YtglhjgfaelfleaaGreat
