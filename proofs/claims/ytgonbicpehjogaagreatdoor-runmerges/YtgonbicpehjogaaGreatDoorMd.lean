/-
  The law's first: a crew of no workers; three short lists.
-/
import Derived.Test.YtgonbicpehjogaaGreatDoorMc
namespace Go.Proofs.YtgonbicpehjogaaGreatDoor
open Go.RowKit
set_option linter.unusedVariables false

set_option maxRecDepth 100000 in
theorem crew_no (o : Array Value) (w : World) : Calls Tryz.prog 7 #[.agg o, .slice none 0 0, .slice none 0 0, .slice none 0 0, .int .i64 0] w fun e w' => e = .returned (.tuple #[.slice none 0 0, .slice none 0 0, .int .i64 23]) ∧ Below w.heap.size w w' := by
  go_enter Tryz.func7, Tryz.ntmps7
  go_wp2
  go_ret3
  exact ⟨rfl, ((((Below.refl _ _).alloc (Nat.le_refl _) _).alloc (by simp) _).alloc (by simp; omega) _).alloc (by simp; omega) _⟩
def actA (n : Int) : Ac := ⟨2, n, [], 0, 0, 0, 0, ⟨#[]⟩, ⟨#[]⟩, ⟨#[]⟩⟩
def listsA : List (List Ac) := [[actA 1, actA 2], [], [actA 3]]
theorem rounds_A {r : Nat} (h : restN r listsA = []) : roundsM r listsA = [actA 1, actA 3, actA 2] := by
  rw [← rounds_all (n := 2) h (by intro l hl; simp [listsA] at hl; rcases hl with rfl | rfl | rfl <;> simp)]
  rfl
theorem two_boxes (W : World) (o1 o2 o3 : Obj) : (((W.alloc o1).alloc o2).alloc o3).heap[W.heap.size]? = some o1 ∧ (((W.alloc o1).alloc o2).alloc o3).heap[W.heap.size + 1]? = some o2 ∧ (((W.alloc o1).alloc o2).alloc o3).heap[W.heap.size + 1 + 1]? = some o3 :=
  ⟨by rw [Below.heap_alloc _ _ _ (by simp; omega), Below.heap_alloc _ _ _ (by simp)]; exact heap_alloc_new W _, by rw [Below.heap_alloc _ _ _ (by simp)]; have := heap_alloc_new (W.alloc o1) o2; rwa [World.size_alloc] at this, by have := heap_alloc_new ((W.alloc o1).alloc o2) o3; rwa [World.size_alloc, World.size_alloc] at this⟩
theorem lists_A (w : World) : LsAt (((w.alloc (.cells #[.int .i64 2, .int .i64 1, .slice none 0 0, .int .i64 0, .int .i64 0, .int .i64 0, .int .i64 0, .string ⟨#[]⟩, .string ⟨#[]⟩, .string ⟨#[]⟩, .int .i64 2, .int .i64 2, .slice none 0 0, .int .i64 0, .int .i64 0, .int .i64 0, .int .i64 0, .string ⟨#[]⟩, .string ⟨#[]⟩, .string ⟨#[]⟩] 31)).alloc (.cells #[.int .i64 2, .int .i64 3, .slice none 0 0, .int .i64 0, .int .i64 0, .int .i64 0, .int .i64 0, .string ⟨#[]⟩, .string ⟨#[]⟩, .string ⟨#[]⟩] 31)).alloc (.cells #[.slice (some ⟨w.heap.size, 0, none⟩) 2 2, .slice none 0 0, .slice (some ⟨w.heap.size + 1, 0, none⟩) 1 1] 24)).heap.size (((w.alloc (.cells #[.int .i64 2, .int .i64 1, .slice none 0 0, .int .i64 0, .int .i64 0, .int .i64 0, .int .i64 0, .string ⟨#[]⟩, .string ⟨#[]⟩, .string ⟨#[]⟩, .int .i64 2, .int .i64 2, .slice none 0 0, .int .i64 0, .int .i64 0, .int .i64 0, .int .i64 0, .string ⟨#[]⟩, .string ⟨#[]⟩, .string ⟨#[]⟩] 31)).alloc (.cells #[.int .i64 2, .int .i64 3, .slice none 0 0, .int .i64 0, .int .i64 0, .int .i64 0, .int .i64 0, .string ⟨#[]⟩, .string ⟨#[]⟩, .string ⟨#[]⟩] 31)).alloc (.cells #[.slice (some ⟨w.heap.size, 0, none⟩) 2 2, .slice none 0 0, .slice (some ⟨w.heap.size + 1, 0, none⟩) 1 1] 24)) (fun _ => True) (some ⟨w.heap.size + 1 + 1, 0, none⟩) listsA := by
  obtain ⟨hA, hB, hC⟩ := two_boxes w (.cells #[.int .i64 2, .int .i64 1, .slice none 0 0, .int .i64 0, .int .i64 0, .int .i64 0, .int .i64 0, .string ⟨#[]⟩, .string ⟨#[]⟩, .string ⟨#[]⟩, .int .i64 2, .int .i64 2, .slice none 0 0, .int .i64 0, .int .i64 0, .int .i64 0, .int .i64 0, .string ⟨#[]⟩, .string ⟨#[]⟩, .string ⟨#[]⟩] 31) (.cells #[.int .i64 2, .int .i64 3, .slice none 0 0, .int .i64 0, .int .i64 0, .int .i64 0, .int .i64 0, .string ⟨#[]⟩, .string ⟨#[]⟩, .string ⟨#[]⟩] 31) (.cells #[.slice (some ⟨w.heap.size, 0, none⟩) 2 2, .slice none 0 0, .slice (some ⟨w.heap.size + 1, 0, none⟩) 1 1] 24)
  have hs : (((w.alloc (.cells #[.int .i64 2, .int .i64 1, .slice none 0 0, .int .i64 0, .int .i64 0, .int .i64 0, .int .i64 0, .string ⟨#[]⟩, .string ⟨#[]⟩, .string ⟨#[]⟩, .int .i64 2, .int .i64 2, .slice none 0 0, .int .i64 0, .int .i64 0, .int .i64 0, .int .i64 0, .string ⟨#[]⟩, .string ⟨#[]⟩, .string ⟨#[]⟩] 31)).alloc (.cells #[.int .i64 2, .int .i64 3, .slice none 0 0, .int .i64 0, .int .i64 0, .int .i64 0, .int .i64 0, .string ⟨#[]⟩, .string ⟨#[]⟩, .string ⟨#[]⟩] 31)).alloc (.cells #[.slice (some ⟨w.heap.size, 0, none⟩) 2 2, .slice none 0 0, .slice (some ⟨w.heap.size + 1, 0, none⟩) 1 1] 24)).heap.size = w.heap.size + 1 + 1 + 1 := by simp
  generalize (((w.alloc (.cells #[.int .i64 2, .int .i64 1, .slice none 0 0, .int .i64 0, .int .i64 0, .int .i64 0, .int .i64 0, .string ⟨#[]⟩, .string ⟨#[]⟩, .string ⟨#[]⟩, .int .i64 2, .int .i64 2, .slice none 0 0, .int .i64 0, .int .i64 0, .int .i64 0, .int .i64 0, .string ⟨#[]⟩, .string ⟨#[]⟩, .string ⟨#[]⟩] 31)).alloc (.cells #[.int .i64 2, .int .i64 3, .slice none 0 0, .int .i64 0, .int .i64 0, .int .i64 0, .int .i64 0, .string ⟨#[]⟩, .string ⟨#[]⟩, .string ⟨#[]⟩] 31)).alloc (.cells #[.slice (some ⟨w.heap.size, 0, none⟩) 2 2, .slice none 0 0, .slice (some ⟨w.heap.size + 1, 0, none⟩) 1 1] 24)) = W at *
  refine .inr ⟨_, 0, rfl, by omega, trivial, fun i hi => ?_⟩
  have hi' : i < 3 := hi
  obtain rfl | rfl | rfl : i = 0 ∨ i = 1 ∨ i = 2 := by omega
  · refine ⟨.slice (some ⟨w.heap.size, 0, none⟩) 2 2, by simp only [World.cell?, hC]; rfl, _, 2, rfl, Nat.le_refl _, by decide, .inr ⟨_, 0, rfl, by omega, fun j hj => ?_⟩⟩
    have hj' : j < 2 := hj
    obtain rfl | rfl : j = 0 ∨ j = 1 := by omega
    all_goals exact ⟨.slice none 0 0, Sl.nil _ _, by simp only [World.cell?, hA]; rfl, by simp only [World.cell?, hA]; rfl, by simp only [World.cell?, hA]; rfl, by simp only [World.cell?, hA]; rfl, by simp only [World.cell?, hA]; rfl, by simp only [World.cell?, hA]; rfl, by simp only [World.cell?, hA]; rfl, by simp only [World.cell?, hA]; rfl, by simp only [World.cell?, hA]; rfl, by simp only [World.cell?, hA]; rfl⟩
  · exact ⟨.slice none 0 0, by simp only [World.cell?, hC]; rfl, none, 0, rfl, Nat.le_refl _, by decide, .inl rfl⟩
  · refine ⟨.slice (some ⟨w.heap.size + 1, 0, none⟩) 1 1, by simp only [World.cell?, hC]; rfl, _, 1, rfl, Nat.le_refl _, by decide, .inr ⟨_, 0, rfl, by omega, fun j hj => ?_⟩⟩
    have hj' : j < 1 := hj
    obtain rfl : j = 0 := by omega
    exact ⟨.slice none 0 0, Sl.nil _ _, by simp only [World.cell?, hB]; rfl, by simp only [World.cell?, hB]; rfl, by simp only [World.cell?, hB]; rfl, by simp only [World.cell?, hB]; rfl, by simp only [World.cell?, hB]; rfl, by simp only [World.cell?, hB]; rfl, by simp only [World.cell?, hB]; rfl, by simp only [World.cell?, hB]; rfl, by simp only [World.cell?, hB]; rfl, by simp only [World.cell?, hB]; rfl⟩
set_option maxRecDepth 100000 in
set_option maxHeartbeats 4000000 in
theorem first_s (w : World) : Calls Tryz.prog 4 #[] w fun e w' => e = .returned (.bool true) ∧ Below w.heap.size w w' := by
  go_enter Tryz.func4, Tryz.ntmps4
  go_wp2_with (first
    | (go_at_call 7; refine (crew_no _ _).mono ?_; rintro e w1 ⟨rfl, hB1⟩; have HB1 : Hid (Below w.heap.size w w1) := hB1; have hs1 := hB1.size; clear hB1)
    | (go_at_call 5; refine (merge_any (some ⟨w1.heap.size + 1 + 1, 0, none⟩) 3 listsA _ (lists_A w1) (by decide) (by decide) (by decide)).mono ?_; rintro e w2 ⟨v, r, ds, rfl, hr, hM, hB2⟩; rw [rounds_A hr] at hM; obtain ⟨ga, gc, rfl, -, -⟩ := row_shape hM.row; obtain h | ⟨gb, go, rfl, hgb, hact⟩ := hM.acts (Nat.le_refl _); (cases h); obtain ⟨_, a0⟩ := hact 0 (by decide); obtain ⟨_, a1⟩ := hact 1 (by decide); obtain ⟨_, a2⟩ := hact 2 (by decide); have b0 : w2.cell? ⟨gb, go + 1, none⟩ = some (.int .i64 1) := a0.c1; have b1 : w2.cell? ⟨gb, go + 11, none⟩ = some (.int .i64 3) := a1.c1; have b2 : w2.cell? ⟨gb, go + 21, none⟩ = some (.int .i64 2) := a2.c1; have HB2 : Hid (Below w.heap.size w w2) := (HB1.out.trans (((((Below.refl _ _).alloc (Nat.le_refl _) _).alloc (by simp) _).alloc (by simp; omega) _).mono hs1)).trans (hB2.mono (by simp; omega)); clear hB2 hM hact a0 a1 a2; simp only [List.length_cons, List.length_nil])
    | (go_at_call 8; refine (num_any _ _).mono ?_; rintro e w3 ⟨rfl, rfl⟩))
  go_ret
  exact ⟨rfl, HB2.out⟩
end Go.Proofs.YtgonbicpehjogaaGreatDoor
