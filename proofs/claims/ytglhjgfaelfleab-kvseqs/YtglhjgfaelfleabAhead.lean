/-
  The iterator bytesAhead: it yields the bytes that a number may have, up to the one that ends it.
-/
import Derived.Test.YtglhjgfaelfleabPut
namespace Go.Proofs.Ytglhjgfaelfleab
open Go.RowKit Go.Shelf
attribute [local go_sem] Oper.semAt_some

theorem ahead_stop (l : List UInt8) (k : Nat) (hk : k < 9) (h : k < l.length) (h3 : ∀ j, j < k → 128 ≤ (byteAt l j).toNat) (h4 : (byteAt l k).toNat < 128) : ahead 9 l = l.take k ++ [byteAt l k] := by
  have := (ahead_end l 0 k hk (by omega) (fun j hj => by simpa using h3 j hj) (by simpa using h4)).1
  simp only [List.drop_zero] at this
  rw [this, take_snocB _ _ h]

theorem ahead_all (l : List UInt8) (k : Nat) (hk : k = min l.length 9) (h3 : ∀ j, j < k → 128 ≤ (byteAt l j).toNat) : ahead 9 l = l.take k := by
  rw [ahead_go k 9 l (by omega) (by omega) h3]
  by_cases h9 : k = 9
  · subst h9; simp [ahead]
  · have : l.drop k = [] := List.drop_eq_nil_of_le (by omega)
    rw [this]
    cases 9 - k <;> simp [ahead]

theorem take_prefix_ahead (l : List UInt8) (k : Nat) (hk : k < 9) (h : k < l.length) (h3 : ∀ j, j < k → 128 ≤ (byteAt l j).toNat) : l.take k ++ [byteAt l k] <+: ahead 9 l := by
  by_cases h4 : (byteAt l k).toNat < 128
  · rw [ahead_stop l k hk h h3 h4]; exact List.prefix_refl _
  · rw [ahead_go (k + 1) 9 l (by omega) (by omega) (fun j hj => by
      by_cases e : j = k
      · subst e; omega
      · exact h3 j (by omega)), take_snocB _ _ h]
    exact List.prefix_append _ _

theorem ahead_len_gt (l : List UInt8) (k : Nat) (hk : k < 9) (h : k < l.length) (h3 : ∀ j, j < k → 128 ≤ (byteAt l j).toNat) : k < (ahead 9 l).length := by
  have := (take_prefix_ahead l k hk h h3).length_le
  simp at this; omega

/-- Bytes from an address on. -/
def CellsAt (W : World) (b off : Nat) (l : List UInt8) : Prop := ∀ i, i < l.length → W.cell? ⟨b, off + i, none⟩ = some (.int .u8 ((byteAt l i).toNat : Int))

theorem CellsAt.below {n₀ : Nat} {W W' : World} {b off : Nat} {l : List UInt8} (h : CellsAt W b off l) (hb : b < n₀) (hB : Below n₀ W W') : CellsAt W' b off l :=
  fun i hi => (hB.cell (p := ⟨b, off + i, none⟩) hb).trans (h i hi)

end Go.Proofs.Ytglhjgfaelfleab
