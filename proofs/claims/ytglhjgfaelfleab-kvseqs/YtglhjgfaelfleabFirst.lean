/-
  The numbers of which the document fixes all: 'first' is true.
-/
import Derived.Test.YtglhjgfaelfleabTake
namespace Go.Proofs.Ytglhjgfaelfleab
open Go.RowKit Go.Shelf

theorem Ow.below {N B : Nat} {w w' : World} {v : Value} {l : List UInt8} (h : Ow N w v l) (hB : Below B w w') (hs : w.heap.size ≤ B) : Ow N w' v l :=
  h.kept (row := none) ⟨hB.os, hB.tape, hB.output, hB.size, fun k hk _ => hB.block k (by omega)⟩ (by cases v.ownBlock <;> simp)

theorem Ow.alloc {N : Nat} {w : World} {v : Value} {l : List UInt8} (h : Ow N w v l) (o : Obj) : Ow N (w.alloc o) v l :=
  h.kept (World.grownBy_alloc w o none) (by cases v.ownBlock <;> simp)

/-- Bytes that are written out. -/
theorem sl_new (w : World) (l : List UInt8) (c : Array Value) (hl : 0 < l.length) (hm : l.length ≤ 1000) (hc : c.toList = l.map encB) : Sl (w.heap.size + 1) (w.alloc (.cells c 5)) (.slice (some ⟨w.heap.size, 0, none⟩) l.length l.length) l := by
  refine ⟨_, _, rfl, Nat.le_refl _, by unfold maxLen; omega, .inr ⟨_, _, rfl, by omega, fun i hi => ?_⟩⟩
  have h : (w.alloc (.cells c 5)).heap[w.heap.size]? = some (.cells c 5) := World.alloc_heap_new w _
  simp only [World.cell?, h, Nat.zero_add]
  have : c.toList[i]? = (l.map encB)[i]? := by rw [hc]
  rw [List.getElem?_map, List.getElem?_eq_getElem hi] at this
  simpa [hi] using this

theorem put300 : putB 300 = [172, 2] := by decide +kernel
theorem put300e : putE 300 = 0 := by decide +kernel
theorem putm1e : putE (-1) = 1 := by decide +kernel
theorem int300 : intAt [172, 2, 7] 0 = (300, 2, 0) := by decide +kernel
theorem pk5 : pk [5, 2, 97, 98, 1] 0 0 = (5, 1, 0) := by decide +kernel
theorem take5 : takeAt [5, 2, 97, 98, 1] 1 0 2 = ([97, 98], 4, 0) := by decide +kernel
theorem bool5 : boolAt [5, 2, 97, 98, 1] 4 0 = (true, 5, 0) := by decide +kernel
theorem done5 : doneE [5, 2, 97, 98, 1] 5 0 = 0 := by decide +kernel

end Go.Proofs.Ytglhjgfaelfleab
