/-
  The document's line of an act: its parts.
-/
import Derived.Test.YtbckogojnjmjcaaGreatDoorR5
import Derived.Test.YtbckogojnjmjcaaGreatDoorR3
import Derived.Test.YtbckogojnjmjcaaGreatDoorC2
import Derived.Test.YtbckogojnjmjcaaGreatDoorB9
namespace Go.Proofs.YtbckogojnjmjcaaGreatDoor
open Go.RowKit Go.Shelf

theorem cat2 (a b : Bs) : (⟨a.toArray⟩ : ByteArray) ++ ⟨b.toArray⟩ = ⟨(a ++ b).toArray⟩ := by
  apply ByteArray.ext
  simp [ByteArray.data_append]

set_option maxRecDepth 100000 in
set_option maxHeartbeats 4000000 in
theorem run_eq_rac1 (d : Nat) (x y : Ac) (w : World) : (Op.equalIn (d + 1 + 1) 37 (.agg x.cells) (.agg y.cells)).run Tryz.prog w = .ok (decide (x = y)) w := by
  obtain ⟨fs, hfs⟩ : ∃ fs, Tryz.prog.fieldsOf 37 = fs := ⟨_, rfl⟩
  have hfe := hfs
  simp only [Program.fieldsOf, Tryz.underlying37] at hfe
  rw [run_equalIn_struct w (d + 1) 37 x.cells y.cells (by rw [hfs, ← hfe]; exact Tryz.underlying37) (by kernel_rfl), hfs, ← acEq_iff, ← hfe]
  unfold acEq
  refine field_step _ _ _ _ _ (by simp) _ _ _ (part_i _ 0 _ rfl w) (part_i _ 0 _ rfl w) _ _ (run_eq_int d _ _ w) ?_
  refine field_step _ _ _ _ _ (by simp) _ _ _ (part_i _ 1 _ rfl w) (part_i _ 1 _ rfl w) _ _ (run_eq_int d _ _ w) ?_
  refine field_step _ _ _ _ _ (by simp) _ _ _ (part_i _ 2 _ rfl w) (part_i _ 2 _ rfl w) _ _ (run_eq_int d _ _ w) ?_
  refine field_step _ _ _ _ _ (by simp) _ _ _ (part_i _ 3 _ rfl w) (part_i _ 3 _ rfl w) _ _ (run_eq_int d _ _ w) ?_
  refine field_step _ _ _ _ _ (by simp) _ _ _ (part_i _ 4 _ rfl w) (part_i _ 4 _ rfl w) _ _ (run_eq_int d _ _ w) ?_
  refine field_step _ _ _ _ _ (by simp) _ _ _ (part_i _ 5 _ rfl w) (part_i _ 5 _ rfl w) _ _ (run_eq_int d _ _ w) ?_
  refine field_step _ _ _ _ _ (by simp) _ _ _ (part_s _ 6 _ rfl w) (part_s _ 6 _ rfl w) _ _ (run_eq_str d _ _ w) ?_
  refine field_step _ _ _ _ _ (by simp) _ _ _ (part_s _ 7 _ rfl w) (part_s _ 7 _ rfl w) _ _ (run_eq_str d _ _ w) ?_
  have h9 : (Op.eqFields (d + 1) x.cells y.cells []).run Tryz.prog w = .ok true w := by simp [Op.eqFields]
  rw [← Bool.and_true (x.old == y.old)]
  exact field_step _ _ _ _ _ (by simp) _ _ _ (part_s _ 8 _ rfl w) (part_s _ 8 _ rfl w) _ _ (run_eq_str d _ _ w) h9
theorem run_eq_rac (x y : Ac) (w : World) : (Op.equalIn 10000 37 (.agg x.cells) (.agg y.cells)).run Tryz.prog w = .ok (decide (x = y)) w := by
  have h := run_eq_rac1 9998 x y w
  rwa [show 9998 + 1 + 1 = 10000 from rfl] at h
theorem far_any (n : Int) (w : World) : Calls Tryz.prog 53 #[.int .i64 n] w fun e w' => e = .returned (.bool (!inNum n)) ∧ w' = w := by
  by_cases h1 : 4611686018427387904 < n
  · have HD : Hid (inNum n = false) := by
      show _ = _
      rw [Bool.eq_false_iff]
      intro h
      have := inNum_iff.1 h
      omega
    go_enter Tryz.func53, Tryz.ntmps53
    go_wp2
    go_ret
    exact ⟨by rw [HD.out]; rfl, rfl⟩
  by_cases h2 : n < -4611686018427387904
  · have HD : Hid (inNum n = false) := by
      show _ = _
      rw [Bool.eq_false_iff]
      intro h
      have := inNum_iff.1 h
      omega
    go_enter Tryz.func53, Tryz.ntmps53
    go_wp2
    go_ret
    exact ⟨by rw [HD.out]; rfl, rfl⟩
  · have HD : Hid (inNum n = true) := inNum_iff.2 ⟨by omega, by omega⟩
    go_enter Tryz.func53, Tryz.ntmps53
    go_wp2
    go_ret
    exact ⟨by rw [HD.out]; rfl, rfl⟩
/-- A row in a block. -/
def RwAt (W : World) (b : Nat) (f : Fo) : Prop := W.heap[b]? = some (.cells (rrow f).toArray 119)
theorem RwAt.lt {W : World} {b : Nat} {f : Fo} (h : RwAt W b f) : b < W.heap.size := (Array.getElem?_eq_some_iff.1 h).1
theorem RwAt.below {W W' : World} {b : Nat} {f : Fo} (h : RwAt W b f) (hB : Below W.heap.size W W') : RwAt W' b f := (hB.block b h.lt).trans h
theorem RwAt.out {X : Nat → Prop} {W W' : World} {b : Nat} {f : Fo} (h : RwAt W b f) (hO : Out X W W') (hx : ¬ X b) : RwAt W' b f := (hO.block b h.lt hx).trans h
theorem RwAt.cells {W : World} {b : Nat} {f : Fo} (h : RwAt W b f) : W.cell? ⟨b, 0, none⟩ = some (.string ⟨f.word.toArray⟩) ∧ W.cell? ⟨b, 1, none⟩ = some (.int .i64 f.kind) ∧ W.cell? ⟨b, 2, none⟩ = some (.string ⟨f.of.toArray⟩) ∧ W.cell? ⟨b, 3, none⟩ = some (.int .i64 f.m) ∧ W.cell? ⟨b, 4, none⟩ = some (.int .i64 f.op) := by
  unfold RwAt at h
  refine ⟨?_, ?_, ?_, ?_, ?_⟩
  all_goals (simp only [World.cell?, h]; rfl)
theorem RwAt.frz {W : World} {b : Nat} {f : Fo} (h : RwAt W b f) (j : Nat) : W.frozen? ⟨b, j, none⟩ = false := by unfold RwAt at h; simp [World.frozen?, h]
theorem RwAt.set {W : World} {b : Nat} {f : Fo} (h : RwAt W b f) (f' : Fo) : RwAt (((((W.setCell ⟨b, 0, none⟩ (.string ⟨f'.word.toArray⟩)).setCell ⟨b, 1, none⟩ (.int .i64 f'.kind)).setCell ⟨b, 2, none⟩ (.string ⟨f'.of.toArray⟩)).setCell ⟨b, 3, none⟩ (.int .i64 f'.m)).setCell ⟨b, 4, none⟩ (.int .i64 f'.op)) b f' := by
  unfold RwAt at h ⊢
  have h0 := heap_set h 0 (.string ⟨f'.word.toArray⟩)
  have h1 := heap_set h0 1 (.int .i64 f'.kind)
  have h2 := heap_set h1 2 (.string ⟨f'.of.toArray⟩)
  have h3 := heap_set h2 3 (.int .i64 f'.m)
  have h4 := heap_set h3 4 (.int .i64 f'.op)
  exact h4
theorem AcOk.clr {a : Ac} (h : AcOk a) (p : Pc) : AcOk (p.clr a) := by
  obtain ⟨h1, h2, h3, h4, h5, h6, h7, h8, h9⟩ := h
  cases p <;> constructor <;> (simp only [Pc.clr]; first | assumption | (constructor <;> decide) | decide)
theorem takeL_step {pl : List Pc} {j : Nat} {p : Pc} (h : pl[j]? = some p) (a : Ac) (s : Bs) : takeL (pl.drop j) a s = takeL (pl.drop (j + 1)) (p.clr a) (s ++ [32] ++ p.show a) := by
  obtain ⟨h1, h2⟩ := List.getElem?_eq_some_iff.1 h
  rw [List.drop_eq_getElem_cons h1, h2]
  rfl
end Go.Proofs.YtbckogojnjmjcaaGreatDoor
