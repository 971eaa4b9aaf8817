/-
  Options in memory; the pointers to their numbers.
-/
import Derived.Test.YtbckogojnjmjcaaGreatDoorPc
namespace Go.Proofs.YtbckogojnjmjcaaGreatDoor
open Go.RowKit Go.Shelf

def intsV (l : List Int) : Array Value := (l.map (Value.int .i64)).toArray
def offs : List Nat := [0, 1, 4, 5, 6, 7, 8, 9, 10, 11, 12, 13, 14, 15, 16, 17, 18]
def zeros : List Int := List.replicate 19 0
/-- Options in a block. -/
def OpAt (W : World) (b : Nat) (l : List Int) : Prop := W.heap[b]? = some (.cells (intsV l) 52 (0, 0))
theorem OpAt.lt {W : World} {b : Nat} {l : List Int} (h : OpAt W b l) : b < W.heap.size := (Array.getElem?_eq_some_iff.1 h).1
theorem OpAt.below {W W' : World} {b : Nat} {l : List Int} (h : OpAt W b l) (hB : Below W.heap.size W W') : OpAt W' b l := (hB.block b h.lt).trans h
theorem OpAt.out {X : Nat → Prop} {W W' : World} {b : Nat} {l : List Int} (h : OpAt W b l) (hO : Out X W W') (hx : ¬ X b) : OpAt W' b l := (hO.block b h.lt hx).trans h
theorem OpAt.cell {W : World} {b : Nat} {l : List Int} (h : OpAt W b l) {j : Nat} (hj : j < l.length) : W.cell? ⟨b, j, none⟩ = some (.int .i64 (l.getD j 0)) := by
  unfold OpAt intsV at h
  simp only [World.cell?, h]
  simp [hj]
theorem OpAt.frz {W : World} {b : Nat} {l : List Int} (h : OpAt W b l) (j : Nat) : W.frozen? ⟨b, j, none⟩ = false := by unfold OpAt at h; simp [World.frozen?, h]
theorem OpAt.cells {W : World} {b : Nat} {l : List Int} (h : OpAt W b l) (hl : l.length = 19) : W.cell? ⟨b, 0, none⟩ = some (.int .i64 (l.getD 0 0)) ∧ W.cell? ⟨b, 1, none⟩ = some (.int .i64 (l.getD 1 0)) ∧ W.cell? ⟨b, 2, none⟩ = some (.int .i64 (l.getD 2 0)) ∧ W.cell? ⟨b, 3, none⟩ = some (.int .i64 (l.getD 3 0)) ∧ W.cell? ⟨b, 4, none⟩ = some (.int .i64 (l.getD 4 0)) ∧ W.cell? ⟨b, 5, none⟩ = some (.int .i64 (l.getD 5 0)) ∧ W.cell? ⟨b, 6, none⟩ = some (.int .i64 (l.getD 6 0)) ∧ W.cell? ⟨b, 7, none⟩ = some (.int .i64 (l.getD 7 0)) ∧ W.cell? ⟨b, 8, none⟩ = some (.int .i64 (l.getD 8 0)) ∧ W.cell? ⟨b, 9, none⟩ = some (.int .i64 (l.getD 9 0)) ∧ W.cell? ⟨b, 10, none⟩ = some (.int .i64 (l.getD 10 0)) ∧ W.cell? ⟨b, 11, none⟩ = some (.int .i64 (l.getD 11 0)) ∧ W.cell? ⟨b, 12, none⟩ = some (.int .i64 (l.getD 12 0)) ∧ W.cell? ⟨b, 13, none⟩ = some (.int .i64 (l.getD 13 0)) ∧ W.cell? ⟨b, 14, none⟩ = some (.int .i64 (l.getD 14 0)) ∧ W.cell? ⟨b, 15, none⟩ = some (.int .i64 (l.getD 15 0)) ∧ W.cell? ⟨b, 16, none⟩ = some (.int .i64 (l.getD 16 0)) ∧ W.cell? ⟨b, 17, none⟩ = some (.int .i64 (l.getD 17 0)) ∧ W.cell? ⟨b, 18, none⟩ = some (.int .i64 (l.getD 18 0)) := by
  refine ⟨?_, ?_, ?_, ?_, ?_, ?_, ?_, ?_, ?_, ?_, ?_, ?_, ?_, ?_, ?_, ?_, ?_, ?_, ?_⟩
  all_goals exact h.cell (by omega)
theorem OpAt.set {W : World} {b : Nat} {l : List Int} (h : OpAt W b l) (o : Nat) (n : Int) : OpAt (W.setCell ⟨b, o, none⟩ (.int .i64 n)) b (l.set o n) := by
  unfold OpAt intsV at h ⊢
  rw [heap_set h o, List.map_set]
  simp
theorem ints19 {l : List Int} (hl : l.length = 19) : intsV l = #[.int .i64 (l.getD 0 0), .int .i64 (l.getD 1 0), .int .i64 (l.getD 2 0), .int .i64 (l.getD 3 0), .int .i64 (l.getD 4 0), .int .i64 (l.getD 5 0), .int .i64 (l.getD 6 0), .int .i64 (l.getD 7 0), .int .i64 (l.getD 8 0), .int .i64 (l.getD 9 0), .int .i64 (l.getD 10 0), .int .i64 (l.getD 11 0), .int .i64 (l.getD 12 0), .int .i64 (l.getD 13 0), .int .i64 (l.getD 14 0), .int .i64 (l.getD 15 0), .int .i64 (l.getD 16 0), .int .i64 (l.getD 17 0), .int .i64 (l.getD 18 0)] := by
  match l, hl with
  | [x0, x1, x2, x3, x4, x5, x6, x7, x8, x9, x10, x11, x12, x13, x14, x15, x16, x17, x18], _ => rfl
theorem list19 {l : List Int} (hl : l.length = 19) : l = [l.getD 0 0, l.getD 1 0, l.getD 2 0, l.getD 3 0, l.getD 4 0, l.getD 5 0, l.getD 6 0, l.getD 7 0, l.getD 8 0, l.getD 9 0, l.getD 10 0, l.getD 11 0, l.getD 12 0, l.getD 13 0, l.getD 14 0, l.getD 15 0, l.getD 16 0, l.getD 17 0, l.getD 18 0] := by
  match l, hl with
  | [x0, x1, x2, x3, x4, x5, x6, x7, x8, x9, x10, x11, x12, x13, x14, x15, x16, x17, x18], _ => rfl
/-- The numbers of options, in the order of their line. -/
def num17 (l : List Int) : List Int := offs.map fun o => l.getD o 0
theorem num17_len (l : List Int) : (num17 l).length = 17 := rfl
theorem num17_get (l : List Int) {k : Nat} (hk : k < 17) : (num17 l).getD k 0 = l.getD (offs.getD k 0) 0 := by
  unfold num17
  rw [List.getD_eq_getElem?_getD, List.getElem?_map, List.getD_eq_getElem?_getD (l := offs), List.getElem?_eq_getElem (by simpa [offs] using hk)]
  rfl
theorem offs_lt {k : Nat} (hk : k < 17) : offs.getD k 0 < 19 := by
  have : ∀ j : Fin 17, offs.getD j.val 0 < 19 := by decide
  exact this ⟨k, hk⟩
/-- The pointers lie in a block. -/
def PtAt (W : World) (g b : Nat) : Prop := ∀ k, k < 17 → W.cell? ⟨g, k, none⟩ = some (.pointer (some ⟨b, offs.getD k 0, none⟩))
theorem PtAt.below {W W' : World} {g b : Nat} (h : PtAt W g b) (hg : g < W.heap.size) (hB : Below W.heap.size W W') : PtAt W' g b := fun k hk => (hB.cell (p := ⟨g, k, none⟩) hg).trans (h k hk)
theorem PtAt.out {X : Nat → Prop} {W W' : World} {g b : Nat} (h : PtAt W g b) (hg : g < W.heap.size) (hO : Out X W W') (hx : ¬ X g) : PtAt W' g b := fun k hk => by
  have := hO.block g hg hx
  simp only [World.cell?, this] at *
  exact h k hk
set_option maxRecDepth 100000 in
set_option maxHeartbeats 4000000 in
theorem numbersOf_any (b : Nat) (w : World) (_hb : b < w.heap.size) : Calls Tryz.prog 54 #[.pointer (some ⟨b, 0, none⟩)] w fun e w' => (∃ g, e = .returned (.slice (some ⟨g, 0, none⟩) 17 17) ∧ w.heap.size ≤ g ∧ g < w'.heap.size ∧ PtAt w' g b) ∧ Below w.heap.size w w' := by
  go_enter Tryz.func54, Tryz.ntmps54
  go_wp2
  go_region_held3 (fun _ => True) (go_keep) (fail)
  go_wp2
  go_ret
  refine ⟨⟨w.heap.size, rfl, Nat.le_refl _, by simp, fun k hk => ?_⟩, ((Below.refl _ _).alloc (Nat.le_refl _) _).drew⟩
  have hh : ∀ o, (World.alloc w o).drew.heap[w.heap.size]? = some o := fun o => heap_alloc_new w o
  simp only [World.cell?, hh]
  have : k = 0 ∨ k = 1 ∨ k = 2 ∨ k = 3 ∨ k = 4 ∨ k = 5 ∨ k = 6 ∨ k = 7 ∨ k = 8 ∨ k = 9 ∨ k = 10 ∨ k = 11 ∨ k = 12 ∨ k = 13 ∨ k = 14 ∨ k = 15 ∨ k = 16 := by omega
  rcases this with rfl | rfl | rfl | rfl | rfl | rfl | rfl | rfl | rfl | rfl | rfl | rfl | rfl | rfl | rfl | rfl | rfl <;> rfl
end Go.Proofs.YtbckogojnjmjcaaGreatDoor
