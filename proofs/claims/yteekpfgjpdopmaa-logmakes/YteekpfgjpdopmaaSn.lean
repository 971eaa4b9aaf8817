/-
  Len; the document's marks; an entry of a row is made empty.
-/
import Derived.Test.YteekpfgjpdopmaaOv
namespace Go.Proofs.Yteekpfgjpdopmaa
open Go.RowKit
set_option linter.unusedVariables false

set_option maxRecDepth 100000 in
set_option maxHeartbeats 1000000 in
theorem Len_any {N : Nat} {S : Nat → Prop} {w : World} {b : Nat} {P : PL} (h : Lg N S w b P) :
    Calls Try.prog 65 #[.pointer (some ⟨b, 0, none⟩)] w fun e w' => e = .returned (.int .i64 (P.E.length : Int)) ∧ Below w.heap.size w w' := by
  obtain ⟨va, vc, es, hb, -⟩ := h.cells
  obtain ⟨⟨c0, c1, c2, -, -, -, -, -⟩, -⟩ := cells8 hb
  clear h hb
  go_enter Try.func65, Try.ntmps65
  go_wp2
  go_ret
  exact ⟨rfl, Below.refl _ _⟩

set_option maxRecDepth 100000 in
set_option maxHeartbeats 2000000 in
theorem marks_any {N : Nat} {S : Nat → Prop} {w : World} {b : Nat} {P : PL} (h : Rg N S w b P) :
    Calls Try.prog 66 #[.pointer (some ⟨b, 0, none⟩)] w fun e w' => e = .returned (.agg #[.int .i64 P.h, .int .i64 P.s, .int .i64 P.c, .int .i64 P.g, .int .i64 P.a]) ∧ Below w.heap.size w w' := by
  obtain ⟨va, vc, hcs⟩ := h.cs
  obtain ⟨⟨-, -, -, k3, k4, k5, k6, k7⟩, -, kb⟩ := hcs w (Below.refl _ _)
  have n3 := World.new_ne w _ k3
  have n4 := World.new_ne w _ k4
  have n5 := World.new_ne w _ k5
  have n6 := World.new_ne w _ k6
  have n7 := World.new_ne w _ k7
  clear h hcs
  generalize P.h = x3 at *
  generalize P.s = x4 at *
  generalize P.c = x5 at *
  generalize P.g = x6 at *
  generalize P.a = x7 at *
  go_enter Try.func66, Try.ntmps66
  go_wp2_with fail
  go_region_held3 (fun w' => w'.cell? ⟨b, 3, none⟩ = some (.int .i64 x3) ∧ w'.cell? ⟨b, 4, none⟩ = some (.int .i64 x4) ∧ w'.cell? ⟨b, 5, none⟩ = some (.int .i64 x5) ∧ w'.cell? ⟨b, 6, none⟩ = some (.int .i64 x6) ∧ w'.cell? ⟨b, 7, none⟩ = some (.int .i64 x7)) (go_keep) (fail)
  all_goals
    go_wp2
    refine bodyPost_ret (v := .agg #[.int .i64 x3, .int .i64 x4, .int .i64 x5, .int .i64 x6, .int .i64 x7]) (by simp [results, Try.results66, go_sem]) rfl ⟨rfl, ?_⟩
    first
      | exact ((Below.refl _ _).alloc (Nat.le_refl _) _).drew
      | exact (((Below.refl _ _).drew).alloc (Nat.le_refl _) _)
      | (repeat (first | (with_reducible refine Below.setCell ?_ (by simp) _) | (with_reducible refine Below.alloc ?_ (by simp) _) | (with_reducible refine Below.drew ?_))); exact Below.refl _ _

theorem entCells_put4 (e : Ent) : ∀ (es : List Ent) (i : Nat), i < es.length → entCells (es.set i e) = ((((entCells es).set (i * 4) (.int .i64 e.t)).set (i * 4 + 1) (.int .i64 e.i)).set (i * 4 + 2) (.int .i64 e.k)).set (i * 4 + 3) e.x
  | [], i, h => by simp at h
  | f :: r, 0, _ => by simp [entCells]
  | f :: r, i + 1, h => by
    have ih := entCells_put4 e r i (by simpa using h)
    have e1 : (i + 1) * 4 = i * 4 + 1 + 1 + 1 + 1 := by omega
    rw [e1]
    simp [entCells, ih]
/-- An entry of the row is made empty. -/
theorem Ov.zero {N : Nat} {w : World} {g n vc : Nat} {es : List Ent} (h : Ov N w (.slice (some ⟨g, 0, none⟩) n vc) es) (hn : n = es.length) {i : Nat} (hi : i < es.length) :
    Ov N ((((w.setCell ⟨g, i * 4, none⟩ (.int .i64 0)).setCell ⟨g, i * 4 + 1, none⟩ (.int .i64 0)).setCell ⟨g, i * 4 + 2, none⟩ (.int .i64 0)).setCell ⟨g, i * 4 + 3, none⟩ (.slice none 0 0)) (.slice (some ⟨g, 0, none⟩) n vc) (es.set i nilEnt) ∧
    Out (fun j => j = g) w ((((w.setCell ⟨g, i * 4, none⟩ (.int .i64 0)).setCell ⟨g, i * 4 + 1, none⟩ (.int .i64 0)).setCell ⟨g, i * 4 + 2, none⟩ (.int .i64 0)).setCell ⟨g, i * 4 + 3, none⟩ (.slice none 0 0)) := by
  subst hn
  have hO : Out (fun j => j = g) w ((((w.setCell ⟨g, i * 4, none⟩ (.int .i64 0)).setCell ⟨g, i * 4 + 1, none⟩ (.int .i64 0)).setCell ⟨g, i * 4 + 2, none⟩ (.int .i64 0)).setCell ⟨g, i * 4 + 3, none⟩ (.slice none 0 0)) := ((((Out.refl (fun j => j = g) w).put rfl).put rfl).put rfl).put rfl
  refine ⟨⟨?_, fun f hf => ?_⟩, hO⟩
  · rcases h.row.2 with ⟨h0, _⟩ | ⟨r, cap, cur, hv, hr, hh, hc1, hc2, hc3, hc4⟩
    · cases h0
    · cases hv
      refine ⟨by rw [entCells_length, List.length_set], .inr ⟨g, vc, _, by rw [List.length_set], hr, heap_set (heap_set (heap_set (heap_set hh _ _) _ _) _ _) _ _, by rw [List.length_set]; exact hc1, hc2, by simpa using hc3, ?_⟩⟩
      rw [List.length_set, entCells_put4 nilEnt es i hi, ← hc4]
      simp only [Array.toList_setIfInBounds, List.take_set]
      rfl
  · rcases List.mem_or_eq_of_mem_set hf with hf | rfl
    · obtain ⟨d, hd, ho⟩ := h.dat f hf
      refine ⟨d, hd, ho.out hO (fun g' hg' e' => ?_)⟩
      rcases h.row.2 with ⟨h0, _⟩ | ⟨r, cap, cur, hv, hr, hh, _⟩
      · cases h0
      · cases hv
        exact ho.not_at hh (by decide) (by rw [← e']; exact hg')
    · exact ⟨[], rfl, Ow.nil _ _⟩
end Go.Proofs.Yteekpfgjpdopmaa
