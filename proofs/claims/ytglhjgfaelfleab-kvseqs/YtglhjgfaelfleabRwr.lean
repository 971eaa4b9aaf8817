/-
  The document's own writer: what each of its calls leaves.
-/
import Derived.Test.YtglhjgfaelfleabTold
namespace Go.Proofs.Ytglhjgfaelfleab
open Go.RowKit Go.Shelf

def putN (n : Int) : Nat := if isNumB n then 0 else 1
theorem putE_N (n : Int) : putE n = (putN n : Int) := by unfold putE putN; split <;> rfl

/-- What the document's writer has, and its error, behind a number. -/
def vInt (l : List UInt8) (e : Nat) (n : Int) : List UInt8 × Nat := if e ≠ 0 then (l, e) else (l ++ putB n, putN n)
def vBytes (l : List UInt8) (e : Nat) (m : List UInt8) (most : Int) : List UInt8 × Nat := if e ≠ 0 then (l, e) else if max most 0 < (m.length : Int) then (l, 3) else (l ++ numB m.length ++ m, 0)

theorem vInt_len (l : List UInt8) (n : Nat) (h : n ≤ 1073741824) : vInt l 0 (n : Int) = (l ++ numB n, 0) := by
  have hN : isNumB (n : Int) = true := by simp [isNumB]; omega
  simp [vInt, putB, putN, hN]

end Go.Proofs.Ytglhjgfaelfleab
