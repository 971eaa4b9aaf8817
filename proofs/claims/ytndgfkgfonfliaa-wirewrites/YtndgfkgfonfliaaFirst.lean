/-
  The numbers of which the document fixes all: 'first' is true.
-/
import Derived.Test.YtndgfkgfonfliaaTake
namespace Go.Proofs.Ytndgfkgfonfliaa
open Go.RowKit Go.Shelf

theorem Ow.below {N B : Nat} {w w' : World} {v : Value} {l : List UInt8} (h : Ow N w v l) (hB : Below B w w') (hs : w.heap.size ≤ B) : Ow N w' v l :=
  h.kept (row := none) ⟨hB.os, hB.tape, hB.output, hB.size, fun k hk _ => hB.block k (by omega)⟩ (by cases v.ownBlock <;> simp)

theorem Ow.alloc {N : Nat} {w : World} {v : Value} {l : List UInt8} (h : Ow N w v l) (o : Obj) : Ow N (w.alloc o) v l :=
  h.kept (World.grownBy_alloc w o none) (by cases v.ownBlock <;> simp)

/-- Bytes that are written out. -/
theorem sl_new (w : World) (l : List UInt8) (c : Array Value) (hl : 0 < l.length) (hm : l.length ≤ 1000) (hc : c.toList = l.map encB) : Sl (w.heap.size + 1) (w.alloc (.cells c 5)) (.slice (some ⟨w.heap.size, 0, none⟩) l.length l.length) l := by
  refine ⟨_, _, rfl, Nat.le_refl _, by unfold maxLen; omega, .inr ⟨_, _, rfl, by omega, fun i hi => ?_⟩⟩
  have h : (w.alloc (.cells c 5)).heap[w.heap.size]? = some (.cells c 5) := World.alloc_heap_new w _
  simp only [World.cell?, h, Nat.zero_add]
  have : c.toList[i]? = (l.map encB)[i]? := by rw [hc]
  rw [List.getElem?_map, List.getElem?_eq_getElem hi] at this
  simpa [hi] using this

theorem put300 : putB 300 = [172, 2] := by decide +kernel
theorem put300e : putE 300 = 0 := by decide +kernel
theorem putm1e : putE (-1) = 1 := by decide +kernel
theorem int300 : intAt [172, 2, 7] 0 = (300, 2, 0) := by decide +kernel
theorem pk5 : pk [5, 2, 97, 98, 1] 0 0 = (5, 1, 0) := by decide +kernel
theorem take5 : takeAt [5, 2, 97, 98, 1] 1 0 2 = ([97, 98], 4, 0) := by decide +kernel
theorem bool5 : boolAt [5, 2, 97, 98, 1] 4 0 = (true, 5, 0) := by decide +kernel
theorem done5 : doneE [5, 2, 97, 98, 1] 5 0 = 0 := by decide +kernel

set_option maxRecDepth 100000 in
set_option maxHeartbeats 2000000 in
theorem first_any (w : World) : Calls Try.prog 9 #[] w fun e w' => e = .returned (.bool true) ∧ Below w.heap.size w w' := by
  go_enter Try.func9, Try.ntmps9
  go_wp2_with fail
  refine (put_any 300 _).mono ?_
  rintro e w1 ⟨v1, rfl, hO1, hB1⟩
  rw [put300] at hO1
  rw [put300e]
  obtain ⟨a1, c1, rfl, -, -⟩ := hO1.shape
  have hz1 := hB1.size
  go_wp2_with fail
  have hs2 := sl_new w1 [172, 2, 7] #[.int .u8 172, .int .u8 2, .int .u8 7] (by simp) (by simp) (by rfl)
  refine (wInt_any (w1.heap.size + 1) _ [172, 2, 7] 0 _ (by simp) hs2).mono ?_
  rintro e w2 ⟨rfl, hB2⟩
  rw [int300]
  unfold tup3
  have hz2 := hB2.size
  simp only [World.size_alloc] at hz2
  go_wp2_with fail
  refine (put_any (-1) _).mono ?_
  rintro e w3 ⟨v3, rfl, hO3, hB3⟩
  rw [putm1e]
  obtain ⟨a3, c3, rfl, -, -⟩ := hO3.shape
  have hz3 := hB3.size
  clear hO3
  go_wp2_with fail
  have hs4 := sl_new w3 [5, 2, 97, 98, 1] #[.int .u8 5, .int .u8 2, .int .u8 97, .int .u8 98, .int .u8 1] (by simp) (by simp) (by rfl)
  refine (newReader_any _ _ [5, 2, 97, 98, 1] _ hs4 (by simp)).mono ?_
  rintro e w4 ⟨R, rfl, hR4, hB4⟩
  have hz4 := hB4.size
  simp only [World.size_alloc] at hz4 hR4
  have HW4 : Hid (Below w.heap.size w w4) := by
    have e2 : Below w.heap.size w w2 := (hB1.alloc hz1 _).trans (hB2.mono (by simp; omega))
    have e3 : Below w.heap.size w w3 := e2.trans (hB3.mono (by omega))
    exact (e3.alloc (by omega) _).trans (hB4.mono (by simp; omega))
  have HO4 : Hid (Ow w.heap.size w4 (.slice a1 2 c1) [172, 2]) :=
    ((((hO1.alloc _).below hB2 (Nat.le_refl _)).below hB3 (Nat.le_refl _)).alloc _).below hB4 (Nat.le_refl _)
  clear hO1 hB1 hB2 hB3 hB4 hs2 hs4
  go_wp2_with fail
  refine (rInt_any _ R [5, 2, 97, 98, 1] 0 0 _ hR4 (by simp) (by simp)).mono ?_
  rintro e w5 ⟨rfl, hR5, hg5⟩
  rw [pk5] at hR5 ⊢
  go_wp2_with fail
  refine (rText_any _ R [5, 2, 97, 98, 1] (0 + 1) 0 2 _ hR5 (by simp) (by simp)).mono ?_
  rintro e w6 ⟨rfl, hR6, hg6⟩
  rw [take5] at hR6 ⊢
  go_wp2_with fail
  refine (rBool_any _ R [5, 2, 97, 98, 1] 4 0 _ hR6 (by simp) (by simp)).mono ?_
  rintro e w7 ⟨rfl, hR7, hg7⟩
  rw [bool5] at hR7 ⊢
  have hg47 : w4.grownBy w7 (some R) := grown_trans (grown_trans hg5 hg6 (fun k e => .inl e)) hg7 (fun k e => .inl e)
  have HB7 : Hid (Below w.heap.size w w7) := HW4.out.grown hg47 HW4.out.size (fun k e => by cases e; have := hR4.le; omega)
  have HO7 : Hid (Ow w.heap.size w7 (.slice a1 2 c1) [172, 2]) := by
    obtain ⟨_, v, hRR, _⟩ := hR4
    exact HO4.out.kept hg47 (.inr (HO4.out.not_at hRR (by decide)))
  clear hg5 hg6 hg7 hg47 hR4 hR5 hR6
  go_wp2_with fail
  have hs8 := sl_new w7 [172, 2] #[.int .u8 172, .int .u8 2] (by simp) (by simp) (by rfl)
  have hs9 : Sl (w7.heap.size + 1) (w7.alloc (.cells #[.int .u8 172, .int .u8 2] 5)) (.slice a1 2 c1) [172, 2] := (HO7.out.alloc _).sl (by simp)
  have hB8 : Below w7.heap.size w7 (w7.alloc (.cells #[.int .u8 172, .int .u8 2] 5)) := (Below.refl _ _).alloc (Nat.le_refl _) _
  have hR8 := hR7.below hB8 (Nat.le_refl _)
  have HB8 : Hid (Below w.heap.size w (w7.alloc (.cells #[.int .u8 172, .int .u8 2] 5))) := HB7.out.alloc HB7.out.size _
  refine (same_any _ _ _ [172, 2] [172, 2] _ hs9 hs8).mono ?_
  rintro e w8 ⟨rfl, n8, rfl⟩
  have hR9 := hR8.drewN n8
  have HB9 : Hid (∀ n, Below w.heap.size w (((w7.alloc (.cells #[.int .u8 172, .int .u8 2] 5)).drewN n8).drewN n)) := fun n => HB8.out.trans ⟨rfl, rfl, rfl, Nat.le_refl _, fun _ _ => rfl⟩
  clear hs8 hs9 hB8 hR8 hR7
  simp only [decide_true]
  go_wp2_with (first
    | (go_at_call 13; refine (num_any _ _).mono ?_; rintro e w' ⟨rfl, hw⟩; subst w')
    | (go_at_call 37; refine (rDone_any _ R [5, 2, 97, 98, 1] 5 0 _ hR9 (by simp) (by simp)).mono ?_; rintro e w10 ⟨rfl, n10, rfl⟩; rw [done5]))
  go_ret
  exact ⟨rfl, by simpa using HB9.out n10⟩
end Go.Proofs.Ytndgfkgfonfliaa
