/-
  The document's table of acts; its picks.
-/
import Derived.Test.YtbckogojnjmjcaaGreatDoorPc
import Derived.Test.YtbckogojnjmjcaaGreatDoorN1
namespace Go.Proofs.YtbckogojnjmjcaaGreatDoor
open Go.RowKit Go.Shelf

/-- The letter of a place. -/
def Pc.letter : Pc → UInt8
  | .node => 78
  | .client => 67
  | .n => 110
  | .m => 109
  | .pick => 112
  | .key => 107
  | .val => 118
  | .old => 111
def Fo.of (f : Fo) : Bs := f.pl.map Pc.letter
theorem Fo.of_len (f : Fo) : f.of.length = f.pl.length := by simp [Fo.of]
def rrow (f : Fo) : List Value := [str f.word, .int .i64 f.kind, str f.of, .int .i64 f.m, .int .i64 f.op]
def rrowsC : Array Value := (formsL.flatMap rrow).toArray
/-- The table lies in a block. -/
def RoAt (W : World) (g : Nat) : Prop := W.heap[g]? = some (.cells rrowsC 119)
theorem RoAt.lt {W : World} {g : Nat} (h : RoAt W g) : g < W.heap.size := (Array.getElem?_eq_some_iff.1 h).1
theorem RoAt.below {W W' : World} {g : Nat} (h : RoAt W g) (hB : Below W.heap.size W W') : RoAt W' g := (hB.block g h.lt).trans h
theorem RoAt.out {X : Nat → Prop} {W W' : World} {g : Nat} (h : RoAt W g) (hO : Out X W W') (hx : ¬ X g) : RoAt W' g := (hO.block g h.lt hx).trans h
theorem RoAt.cells {W : World} {g : Nat} (h : RoAt W g) {k : Nat} {f : Fo} (hk : formsL[k]? = some f) :
    W.cell? ⟨g, k * 5, none⟩ = some (.string ⟨f.word.toArray⟩) ∧ W.cell? ⟨g, k * 5 + 1, none⟩ = some (.int .i64 f.kind) ∧ W.cell? ⟨g, k * 5 + 2, none⟩ = some (.string ⟨f.of.toArray⟩) ∧ W.cell? ⟨g, k * 5 + 3, none⟩ = some (.int .i64 f.m) ∧ W.cell? ⟨g, k * 5 + 4, none⟩ = some (.int .i64 f.op) := by
  have key : ∀ j, j < 5 → W.cell? ⟨g, k * 5 + j, none⟩ = (rrow f)[j]? := fun j hj => by
    have h1 := flat_get 5 formsL rrow (fun x _ => rfl) k f hk j hj
    unfold RoAt at h
    simp only [World.cell?, h, rrowsC]
    simpa using h1
  exact ⟨key 0 (by decide), key 1 (by decide), key 2 (by decide), key 3 (by decide), key 4 (by decide)⟩
set_option maxRecDepth 100000 in
set_option maxHeartbeats 8000000 in
theorem rrows_any (w : World) : Calls Tryz.prog 47 #[] w fun e w' => (∃ g, e = .returned (.slice (some ⟨g, 0, none⟩) 20 20) ∧ RoAt w' g) ∧ Below w.heap.size w w' := by
  go_enter Tryz.func47, Tryz.ntmps47
  go_wp2
  refine bodyPost_ret (v := .slice (some ⟨w.heap.size, 0, none⟩) 20 20) (by simp [results, Tryz.results47, go_sem]) rfl ⟨⟨w.heap.size, rfl, ?_⟩, (Below.refl _ _).alloc (Nat.le_refl _) _⟩
  unfold RoAt
  refine (heap_alloc_new _ _).trans ?_
  kernel_rfl
set_option maxRecDepth 100000 in
theorem rpicks_any (w : World) : Calls Tryz.prog 74 #[] w fun e w' => ∃ g, e = .returned (.slice (some ⟨g, 0, none⟩) 9 9) ∧ g < w'.heap.size ∧ StrAt w' g picksL ∧ Below w.heap.size w w' := by
  go_enter Tryz.func74, Tryz.ntmps74
  go_wp2
  go_ret
  have h : (w.alloc (.cells (picksL.map str).toArray 9)).heap[w.heap.size]? = some (.cells (picksL.map str).toArray 9) := heap_alloc_new _ _
  exact ⟨w.heap.size, rfl, by simp, StrAt.of h, (Below.refl _ _).alloc (Nat.le_refl _) _⟩
/-- Letters tell places. -/
theorem letter_inj : ∀ p q : Pc, p.letter = q.letter → p = q := by
  intro p q
  cases p <;> cases q <;> first | (intro _; rfl) | (intro h; exact absurd h (by decide))
end Go.Proofs.YtbckogojnjmjcaaGreatDoor
