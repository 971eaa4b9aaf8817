/-
  Acts in memory; an act with data of its own.
-/
import Derived.Test.YtgonbicpehjogaaGreatDoorRw
import Derived.Deep.Onto
import Derived.OneCell
import Derived.Laws.Rows
import Derived.Laws.Tables
import Derived.Great.Walk
namespace Go.Proofs.YtgonbicpehjogaaGreatDoor
open Go.RowKit

/-- An act. -/
structure Ac where
  kind : Int
  n : Int
  data : List UInt8
  id : Int
  op : Int
  cl : Int
  sq : Int
  key : ByteArray
  val : ByteArray
  old : ByteArray
def act0 : Ac := ⟨0, 0, [], 0, 0, 0, 0, ⟨#[]⟩, ⟨#[]⟩, ⟨#[]⟩⟩
def Ac.cells (x : Ac) (d : Value) : Array Value := #[.int .i64 x.kind, .int .i64 x.n, d, .int .i64 x.id, .int .i64 x.op, .int .i64 x.cl, .int .i64 x.sq, .string x.key, .string x.val, .string x.old]
def aat (l : List Ac) (i : Nat) : Ac := l.getD i act0

theorem Out.setRow {X : Nat → Prop} {w a : World} {g : Nat} {cs : Array Value} (h : Out X w a) (hg : X g) : Out X w (a.setRow g cs) :=
  h.trans (Y := fun i => i = g) ⟨rfl, rfl, rfl, by simp [World.setRow], fun i _ hx => setRow_other _ _ _ _ hx⟩ (fun i hi _ => by rw [hi]; exact hg)
theorem stays1 {w w' : World} {row : Option Nat} (h : w.grownBy w' row) {b : Nat} (hb : b < w.heap.size) (hne : row ≠ some b) : w'.heap[b]? = w.heap[b]? := h.block b hb (fun e => hne e.symm)

set_option maxRecDepth 100000 in
set_option maxHeartbeats 4000000 in
theorem copied_any (x : Ac) (d : Value) (M : Nat) (w : World) (hd : Sl M w d x.data) (hM : M ≤ w.heap.size) (hl : x.data.length ≤ 1000000000) : Calls Tryz.prog 9 #[.agg (x.cells d)] w fun e w' => ∃ d', e = .returned (.agg (x.cells d')) ∧ Ow w.heap.size w' d' x.data ∧ Below w.heap.size w w' := by
  obtain ⟨kind, n, data, id, op, cl, sq, key, val, old⟩ := x
  unfold Ac.cells
  simp only at hd hl ⊢
  obtain ⟨W0, hW0⟩ : ∃ W0, (w.alloc (.cells #[.int .i64 kind, .int .i64 n, d, .int .i64 id, .int .i64 op, .int .i64 cl, .int .i64 sq, .string key, .string val, .string old] 31)).alloc (.cells #[.int .i64 0, .int .i64 0, .slice none 0 0, .int .i64 0, .int .i64 0, .int .i64 0, .int .i64 0, .string ⟨#[]⟩, .string ⟨#[]⟩, .string ⟨#[]⟩] 31) = W0 := ⟨_, rfl⟩
  have HB0 : Hid (Below w.heap.size w W0) := by show Below _ _ _; rw [← hW0]; exact ((Below.refl _ _).alloc (Nat.le_refl _) _).alloc (by simp) _
  have hs0 : W0.heap.size = w.heap.size + 2 := by rw [← hW0]; simp
  have HX0 : Hid (W0.heap[w.heap.size]? = some (.cells #[.int .i64 kind, .int .i64 n, d, .int .i64 id, .int .i64 op, .int .i64 cl, .int .i64 sq, .string key, .string val, .string old] 31 (0, 0))) := by
    show _ = _
    rw [← hW0, Below.heap_alloc _ _ _ (by simp)]; exact heap_alloc_new w _
  have HX1 : Hid (W0.heap[w.heap.size + 1]? = some (.cells #[.int .i64 0, .int .i64 0, .slice none 0 0, .int .i64 0, .int .i64 0, .int .i64 0, .int .i64 0, .string ⟨#[]⟩, .string ⟨#[]⟩, .string ⟨#[]⟩] 31 (0, 0))) := by
    show _ = _
    rw [← hW0]; have := heap_alloc_new (w.alloc (.cells #[.int .i64 kind, .int .i64 n, d, .int .i64 id, .int .i64 op, .int .i64 cl, .int .i64 sq, .string key, .string val, .string old] 31)) (.cells #[.int .i64 0, .int .i64 0, .slice none 0 0, .int .i64 0, .int .i64 0, .int .i64 0, .int .i64 0, .string ⟨#[]⟩, .string ⟨#[]⟩, .string ⟨#[]⟩] 31); rwa [World.size_alloc] at this
  have HW0 : Hid (_ = W0) := hW0
  have HD : Hid (Sl w.heap.size W0 d data) := (hd.mono hM).below HB0.out
  have c2 : W0.cell? ⟨w.heap.size, 2, none⟩ = some d := by simp only [World.cell?, HX0.out]; rfl
  clear hW0 hd hM
  go_enter Tryz.func9, Tryz.ntmps9
  go_upto_region 1 with fail
  rw [HW0.out]
  go_upto_region 2 with (at_builtin; refine wpList_append_ow rfl _ _ rfl W0.heap.size w.heap.size (.slice none 0 0) d [] data rfl (Ow.nil _ _) rfl HD.out (by simp; omega) (Nat.le_refl _) ?_; intro d' w1 r1 r2 r3; obtain ⟨a', c', rfl, hc1, hc2⟩ := r1.shape; have HX : Hid (w1.heap[w.heap.size]? = _) := (stays1 r2 (by omega) (by simp [Value.ownBlock])).trans HX0.out; have c2' : w1.cell? ⟨w.heap.size, 2, none⟩ = some d := (by simp only [World.cell?, HX.out]; rfl); have f2' : w1.frozen? ⟨w.heap.size, 2, none⟩ = false := (by simp [World.frozen?, HX.out]); clear hc1 hc2)
  have HY : Hid (w1.heap[w.heap.size + 1]? = _) := (stays1 r2 (by omega) (by simp [Value.ownBlock])).trans HX1.out
  have HB1 : Hid (Below w.heap.size w w1) := HB0.out.trans ⟨r2.os, r2.tape, r2.output, by have := r2.size; omega, fun i hi => r2.block i (by omega) (by simp [Value.ownBlock])⟩
  have HO : Hid (Ow w.heap.size w1 (.slice a' ([] ++ data).length c') data) := (r1.base (by omega))
  have hs1 : W0.heap.size ≤ w1.heap.size := r2.size
  rw [List.nil_append] at HO
  generalize hdl : (Value.slice a' data.length c') = d' at *
  have hsl : d'.oneCell' = true := by rw [← hdl]; rfl
  clear r1 r2 r3 c2 HX0 HX1 HB0 hdl
  apply wp_region_lit
  refine wpList_load_row rfl 31 _ rfl w.heap.size rfl 31 _ (0, 0) _ (heap_set HX.out 2 d') Tryz.underlying31 rfl (by kernel_rfl) ?_
  have hY : (w1.setCell ⟨w.heap.size, 2, none⟩ d').heap[w.heap.size + 1]? = _ := (Below.heap_setCell _ _ _ _ (by simp)).trans HY.out
  refine wpList_store_row rfl 31 _ _ rfl (w.heap.size + 1) _ rfl rfl 31 _ hY (by kernel_rfl) rfl (show (#[Value.int IntKind.i64 kind, Value.int IntKind.i64 n, d', Value.int IntKind.i64 id, Value.int IntKind.i64 op, Value.int IntKind.i64 cl, Value.int IntKind.i64 sq, Value.string key, Value.string val, Value.string old].all (·.oneCell')) = true by simp [hsl]; simp [Value.oneCell']) ?_
  go_wp2
  refine bodyPost_ret (results_cell_row rfl _ _ (w.heap.size + 1) 31 _ (0, 0) _ rfl (setRow_heap _ _ _ _ _ _ hY) Tryz.underlying31 rfl (by kernel_rfl)) rfl ?_
  have hX2 : (w1.setCell ⟨w.heap.size, 2, none⟩ d').heap[w.heap.size]? = _ := heap_set HX.out 2 d'
  have HOut : Out (fun i => i = w.heap.size ∨ i = w.heap.size + 1) w1 ((w1.setCell ⟨w.heap.size, 2, none⟩ d').setRow (w.heap.size + 1) #[Value.int IntKind.i64 kind, Value.int IntKind.i64 n, d', Value.int IntKind.i64 id, Value.int IntKind.i64 op, Value.int IntKind.i64 cl, Value.int IntKind.i64 sq, Value.string key, Value.string val, Value.string old]) := ((Out.refl _ _).put (.inl rfl)).setRow (.inr rfl)
  refine ⟨d', rfl, row_out HO.out HOut ?_, HB1.out.trans (HOut.below HB1.out.size (by omega))⟩
  rintro g hg (rfl | rfl)
  · exact HO.out.not_at HX.out (by decide) hg
  · exact HO.out.not_at HY.out (by decide) hg
end Go.Proofs.YtgonbicpehjogaaGreatDoor
