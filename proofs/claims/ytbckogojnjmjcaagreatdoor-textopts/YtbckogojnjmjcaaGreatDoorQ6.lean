/-
  The document's numbers of options.
-/
import Derived.Test.YtbckogojnjmjcaaGreatDoorQ2
import Derived.Test.YtbckogojnjmjcaaGreatDoorN1
namespace Go.Proofs.YtbckogojnjmjcaaGreatDoor
open Go.RowKit Go.Shelf

theorem heap_new4 (w : World) (a b c d : Obj) : ((((w.alloc a).alloc b).alloc c).alloc d).heap[w.heap.size + 1 + 1 + 1]? = some d := by
  have := heap_alloc_new (((w.alloc a).alloc b).alloc c) d
  simpa only [World.size_alloc] using this
set_option maxRecDepth 100000 in
set_option maxHeartbeats 4000000 in
theorem rnumbers_x (x0 x1 x2 x3 x4 x5 x6 x7 x8 x9 x10 x11 x12 x13 x14 x15 x16 x17 x18 : Int) (w : World) : Calls Tryz.prog 60 #[.agg #[.int .i64 x0, .int .i64 x1, .int .i64 x2, .int .i64 x3, .int .i64 x4, .int .i64 x5, .int .i64 x6, .int .i64 x7, .int .i64 x8, .int .i64 x9, .int .i64 x10, .int .i64 x11, .int .i64 x12, .int .i64 x13, .int .i64 x14, .int .i64 x15, .int .i64 x16, .int .i64 x17, .int .i64 x18]] w fun e w' => (∃ g, e = .returned (.slice (some ⟨g, 0, none⟩) 18 18) ∧ w.heap.size ≤ g ∧ g < w'.heap.size ∧ w'.heap[g]? = some (.cells #[.int .i64 x0, .int .i64 x1, .int .i64 x4, .int .i64 x5, .int .i64 x6, .int .i64 x7, .int .i64 x8, .int .i64 x9, .int .i64 x10, .int .i64 x11, .int .i64 x12, .int .i64 x13, .int .i64 x14, .int .i64 x15, .int .i64 x16, .int .i64 x17, .int .i64 x18, .int .i64 0] 3 (0, 0))) ∧ Below w.heap.size w w' := by
  go_enter Tryz.func60, Tryz.ntmps60
  go_wp2
  go_ret
  refine ⟨⟨w.heap.size + 1 + 1 + 1, rfl, by omega, by simp, ?_⟩, (((Below.refl _ _).alloc (Nat.le_refl _) _).alloc (by simp) _).alloc (by simp; omega) _ |>.alloc (by simp; omega) _⟩
  exact heap_new4 _ _ _ _ _
/-- Numbers that lie in a block. -/
def InAt (W : World) (g : Nat) (l : List Int) : Prop := ∀ k, k < l.length → W.cell? ⟨g, k, none⟩ = some (.int .i64 (l.getD k 0))
theorem InAt.below {W W' : World} {g : Nat} {l : List Int} (h : InAt W g l) (hg : g < W.heap.size) (hB : Below W.heap.size W W') : InAt W' g l := fun k hk => (hB.cell (p := ⟨g, k, none⟩) hg).trans (h k hk)
def num18 (l : List Int) : List Int := num17 l ++ [0]
theorem num18_len (l : List Int) : (num18 l).length = 18 := rfl
theorem rnumbers_any (l : List Int) (hl : l.length = 19) (w : World) : Calls Tryz.prog 60 #[.agg (intsV l)] w fun e w' => ∃ g, e = .returned (.slice (some ⟨g, 0, none⟩) 18 18) ∧ w.heap.size ≤ g ∧ g < w'.heap.size ∧ InAt w' g (num18 l) ∧ Below w.heap.size w w' := by
  match l, hl with
  | [x0, x1, x2, x3, x4, x5, x6, x7, x8, x9, x10, x11, x12, x13, x14, x15, x16, x17, x18], _ =>
    refine (rnumbers_x x0 x1 x2 x3 x4 x5 x6 x7 x8 x9 x10 x11 x12 x13 x14 x15 x16 x17 x18 w).mono ?_
    rintro e w' ⟨⟨g, rfl, h1, h2, h3⟩, hB⟩
    refine ⟨g, rfl, h1, h2, fun k hk => ?_, hB⟩
    simp only [World.cell?, h3]
    have hk' : k < 18 := hk
    have : k = 0 ∨ k = 1 ∨ k = 2 ∨ k = 3 ∨ k = 4 ∨ k = 5 ∨ k = 6 ∨ k = 7 ∨ k = 8 ∨ k = 9 ∨ k = 10 ∨ k = 11 ∨ k = 12 ∨ k = 13 ∨ k = 14 ∨ k = 15 ∨ k = 16 ∨ k = 17 := by omega
    rcases this with rfl | rfl | rfl | rfl | rfl | rfl | rfl | rfl | rfl | rfl | rfl | rfl | rfl | rfl | rfl | rfl | rfl | rfl <;> rfl
end Go.Proofs.YtbckogojnjmjcaaGreatDoor
