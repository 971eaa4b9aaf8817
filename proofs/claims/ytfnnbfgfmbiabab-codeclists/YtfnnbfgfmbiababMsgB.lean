/-
  A bool's number, kept shut.
-/
import Derived.Test.YtfnnbfgfmbiababMsgW
namespace Go.Proofs.Ytfnnbfgfmbiabab
open Go.RowKit Go.Shelf

/-- A bool as a number. -/
def bN (t : Bool) : Nat := if t then 1 else 0
theorem bN_le (t : Bool) : bN t ≤ 1 := by cases t <;> decide

theorem wsBoolN_any (t : Bool) {w0 w : World} {S : Nat → Prop} {l : List UInt8} (h : Ws w0 w S l) (hl : l.length ≤ 1073741824) :
    Calls Try.prog 89 #[.pointer (some ⟨w0.heap.size, 0, none⟩), .bool t] w fun r w' => r = .returned (.tuple #[]) ∧ Ws w0 w' S (l ++ numB (bN t)) ∧ ∀ k, S k → w'.heap[k]? = w.heap[k]? := wsBool_any t h hl
end Go.Proofs.Ytfnnbfgfmbiabab
