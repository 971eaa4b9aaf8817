/-
  What the document's own PutInt answers: for every number its bytes in new memory, else none and the error 1.
-/
import Derived.Test.YtglhjgfaelfleabLeaf
namespace Go.Proofs.Ytglhjgfaelfleab
open Go.RowKit

theorem info5 : (Try.prog.info? 5).map (fun i => (i.zero, i.size, i.bytes)) = some (some (.int .u8 0), 1, 1) := by kernel_rfl

/-- The bytes of a number, none of what is no number. -/
def putB (n : Int) : List UInt8 := if isNumB n then numB n.toNat else []
def putE (n : Int) : Int := if isNumB n then 0 else 1

theorem putB_len (n : Int) : (putB n).length ≤ 10 := by
  unfold putB; split
  · exact num_len_le 9 _
  · simp

/-- v is a slice of bytes of the call's own, from block N on, that reads l. -/
def Ow (N : Nat) (W : World) (v : Value) (l : List UInt8) : Prop := W.ownsRow N 5 1 v l.length (l.map encB)

theorem encB_one (x : UInt8) : (encB x).oneCell' = true := rfl

/-- One byte more, behind an append of the call's own. -/
theorem Ow.snoc {N : Nat} {w' : World} {v' : Value} {l : List UInt8} {x : UInt8} {u : Value} (hu : u = encB x) (h : w'.ownsRow N 5 1 v' (l.length + 1) (l.map encB ++ [u])) : Ow N w' v' (l ++ [x]) := by
  subst hu; unfold Ow; simpa using h

theorem u8_lo (q : Nat) (h : q < 128) : Value.int .u8 (q : Int) = encB (UInt8.ofNat q) := by
  simp [encB]; omega
theorem u8_hi (q : Nat) : Value.int .u8 (((q % 128 + 128 : Nat)) : Int) = encB (UInt8.ofNat (q % 128 + 128)) := by
  simp [encB]; omega

end Go.Proofs.Ytglhjgfaelfleab
