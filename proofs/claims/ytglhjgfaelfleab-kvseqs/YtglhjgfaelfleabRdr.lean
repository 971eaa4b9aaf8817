/-
  A reader of wire: what each of its calls answers and leaves.
-/
import Derived.Test.YtglhjgfaelfleabMem
import Derived.Deep.RegionWith
namespace Go.Proofs.Ytglhjgfaelfleab
open Go.RowKit Go.Shelf

theorem Ow.kept {N : Nat} {w w' : World} {v : Value} {l : List UInt8} {row : Option Nat} (h : Ow N w v l) (hg : w.grownBy w' row) (hne : v.ownBlock = none ∨ v.ownBlock ≠ row) : Ow N w' v l := World.ownsRow.kept h hg hne

theorem Ow.not_at {N : Nat} {w : World} {v : Value} {l : List UInt8} (h : Ow N w v l) {R : Nat} {cs : Array Value} {t : TypeId} {z : Nat × Nat} (hR : w.heap[R]? = some (.cells cs t z)) (ht : t ≠ 5) : v.ownBlock ≠ some R := by
  rcases h.2 with ⟨rfl, _⟩ | ⟨g, cap, cur, rfl, _, hgb, _⟩
  · simp [Value.ownBlock]
  · intro e'
    obtain rfl : g = R := by simpa [Value.ownBlock] using e'
    rw [hR] at hgb
    simp at hgb
    exact ht hgb.2.1

theorem grown_set (w : World) (R o : Nat) (v : Value) : w.grownBy (w.setCell ⟨R, o, none⟩ v) (some R) :=
  ⟨rfl, rfl, rfl, by simp [World.setCell], fun k _ hk => Below.heap_setCell _ _ _ k (fun e => hk (by rw [e]))⟩

theorem Below.grownBy' {w w' : World} (h : Below w.heap.size w w') (row : Option Nat) : w.grownBy w' row := ⟨h.os, h.tape, h.output, h.size, fun k hk _ => h.block k hk⟩

/-- What peek finds: the number, its bytes, the error. -/
def pk (l : List UInt8) (a e : Nat) : Nat × Nat × Nat := if e = 0 then intAt l a else (0, 0, e)

theorem verdict_bd (p : List UInt8) : (verdict p).1 ≤ 4611686018427387904 ∧ (verdict p).2.1 ≤ p.length ∧ ((verdict p).2.2 ≠ 0 → (verdict p).1 = 0 ∧ (verdict p).2.1 = 0) := by
  unfold verdict
  split
  · simp
  · split
    · simp
    · split
      · simp
      · split
        · simp
        · simp; omega

theorem intAt_bd (l : List UInt8) (a : Nat) : (intAt l a).1 ≤ 4611686018427387904 ∧ (intAt l a).2.1 ≤ 9 ∧ (a ≤ l.length → a + (intAt l a).2.1 ≤ l.length) ∧ ((intAt l a).2.2 ≠ 0 → (intAt l a).1 = 0 ∧ (intAt l a).2.1 = 0) := by
  unfold intAt
  split
  · simp
  · have h := verdict_bd (ahead 9 (l.drop (a : Int).toNat))
    have h9 := ahead_len_le 9 (l.drop (a : Int).toNat)
    have hl := ahead_len_le' 9 (l.drop (a : Int).toNat)
    simp only [Int.toNat_natCast, List.length_drop] at *
    exact ⟨h.1, by omega, fun _ => by omega, h.2.2⟩

theorem pk_bd (l : List UInt8) (a e : Nat) : (pk l a e).1 ≤ 4611686018427387904 ∧ (pk l a e).2.1 ≤ 9 ∧ (a ≤ l.length → a + (pk l a e).2.1 ≤ l.length) ∧ ((pk l a e).2.2 ≠ 0 → (pk l a e).1 = 0 ∧ (pk l a e).2.1 = 0) := by
  unfold pk
  split
  · exact intAt_bd l a
  · simp

/-- What Bool answers and leaves. -/
def boolAt (l : List UInt8) (a e : Nat) : Bool × Nat × Nat := if 1 < (pk l a e).1 then (false, a, 4) else ((pk l a e).1 == 1, a + (pk l a e).2.1, (pk l a e).2.2)

/-- What a reader's Done tells. -/
def doneE (l : List UInt8) (a e : Nat) : Nat := if e = 0 ∧ a < l.length then 3 else e

end Go.Proofs.Ytglhjgfaelfleab
