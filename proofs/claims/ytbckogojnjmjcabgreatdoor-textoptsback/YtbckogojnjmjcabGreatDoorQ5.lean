/-
  Options are the same as themselves.
-/
import Derived.Test.YtbckogojnjmjcabGreatDoorPc
namespace Go.Proofs.YtbckogojnjmjcabGreatDoor
open Go.RowKit Go.Shelf

theorem part_st (t : TypeId) (l : Array Value) (i n : Nat) (fs : Array Field) (hu : Tryz.prog.underlying t = some (.struct fs)) (hc : Tryz.prog.cellsOf t = n) (_hi : i + n ≤ l.size) (w : World) : (part t l i).run Tryz.prog w = .ok (.agg (l.extract i (i + n))) w := by
  obtain ⟨inf, hinf⟩ := info_of_underlying hu
  have hsz : inf.size = n := by rw [← hc]; simp [Program.cellsOf, hinf]
  simp [part, isAgg, run_underlying hu, sizeOf, typeInfo, hinf, hsz]
theorem field_true (d : Nat) (xs ys : Array Value) (f : Field) (fs : List Field) (hn : f.name ≠ "_") (a b : Value) (w : World) (h1 : (part f.type xs f.offset).run Tryz.prog w = .ok a w) (h2 : (part f.type ys f.offset).run Tryz.prog w = .ok b w) (h3 : (Op.equalIn d f.type a b).run Tryz.prog w = .ok true w) (h4 : (Op.eqFields d xs ys fs).run Tryz.prog w = .ok true w) : (Op.eqFields d xs ys (f :: fs)).run Tryz.prog w = .ok true w :=
  field_step d xs ys f fs hn a b w h1 h2 true true h3 h4
theorem eq_int (d : Nat) (a : Int) (w : World) : (Op.equalIn (d + 1) 3 (.int .i64 a) (.int .i64 a)).run Tryz.prog w = .ok true w := by rw [run_eq_int]; simp
set_option maxRecDepth 100000 in
set_option maxHeartbeats 8000000 in
theorem eq_core (d : Nat) (x2 x3 x4 x5 x6 x7 x8 x9 : Int) (w : World) : (Op.equalIn (d + 1 + 1) 23 (.agg #[.int .i64 x2, .int .i64 x3, .int .i64 x4, .int .i64 x5, .int .i64 x6, .int .i64 x7, .int .i64 x8, .int .i64 x9]) (.agg #[.int .i64 x2, .int .i64 x3, .int .i64 x4, .int .i64 x5, .int .i64 x6, .int .i64 x7, .int .i64 x8, .int .i64 x9])).run Tryz.prog w = .ok true w := by
  obtain ⟨fs, hfs⟩ : ∃ fs, Tryz.prog.fieldsOf 23 = fs := ⟨_, rfl⟩
  have hfe := hfs
  simp only [Program.fieldsOf, Tryz.underlying23] at hfe
  rw [run_equalIn_struct w (d + 1) 23 _ _ (by rw [hfs, ← hfe]; exact Tryz.underlying23) (by kernel_rfl), hfs, ← hfe]
  refine field_true _ _ _ _ _ (by simp) _ _ _ (part_i _ 0 _ rfl w) (part_i _ 0 _ rfl w) (eq_int d _ w) ?_
  refine field_true _ _ _ _ _ (by simp) _ _ _ (part_i _ 1 _ rfl w) (part_i _ 1 _ rfl w) (eq_int d _ w) ?_
  refine field_true _ _ _ _ _ (by simp) _ _ _ (part_i _ 2 _ rfl w) (part_i _ 2 _ rfl w) (eq_int d _ w) ?_
  refine field_true _ _ _ _ _ (by simp) _ _ _ (part_i _ 3 _ rfl w) (part_i _ 3 _ rfl w) (eq_int d _ w) ?_
  refine field_true _ _ _ _ _ (by simp) _ _ _ (part_i _ 4 _ rfl w) (part_i _ 4 _ rfl w) (eq_int d _ w) ?_
  refine field_true _ _ _ _ _ (by simp) _ _ _ (part_i _ 5 _ rfl w) (part_i _ 5 _ rfl w) (eq_int d _ w) ?_
  refine field_true _ _ _ _ _ (by simp) _ _ _ (part_i _ 6 _ rfl w) (part_i _ 6 _ rfl w) (eq_int d _ w) ?_
  refine field_true _ _ _ _ _ (by simp) _ _ _ (part_i _ 7 _ rfl w) (part_i _ 7 _ rfl w) (eq_int d _ w) ?_
  simp [Op.eqFields]
set_option maxRecDepth 100000 in
set_option maxHeartbeats 8000000 in
theorem eq_node (d : Nat) (x2 x3 x4 x5 x6 x7 x8 x9 x10 x11 x12 x13 x14 x15 x16 x17 x18 : Int) (w : World) : (Op.equalIn (d + 1 + 1 + 1) 25 (.agg #[.int .i64 x2, .int .i64 x3, .int .i64 x4, .int .i64 x5, .int .i64 x6, .int .i64 x7, .int .i64 x8, .int .i64 x9, .int .i64 x10, .int .i64 x11, .int .i64 x12, .int .i64 x13, .int .i64 x14, .int .i64 x15, .int .i64 x16, .int .i64 x17, .int .i64 x18]) (.agg #[.int .i64 x2, .int .i64 x3, .int .i64 x4, .int .i64 x5, .int .i64 x6, .int .i64 x7, .int .i64 x8, .int .i64 x9, .int .i64 x10, .int .i64 x11, .int .i64 x12, .int .i64 x13, .int .i64 x14, .int .i64 x15, .int .i64 x16, .int .i64 x17, .int .i64 x18])).run Tryz.prog w = .ok true w := by
  obtain ⟨fs, hfs⟩ : ∃ fs, Tryz.prog.fieldsOf 25 = fs := ⟨_, rfl⟩
  have hfe := hfs
  simp only [Program.fieldsOf, Tryz.underlying25] at hfe
  rw [run_equalIn_struct w (d + 1 + 1) 25 _ _ (by rw [hfs, ← hfe]; exact Tryz.underlying25) (by kernel_rfl), hfs, ← hfe]
  refine field_true _ _ _ _ _ (by simp) _ _ _ (part_st _ _ 0 8 _ Tryz.underlying23 (by kernel_rfl) (by simp) w) (part_st _ _ 0 8 _ Tryz.underlying23 (by kernel_rfl) (by simp) w) (eq_core d x2 x3 x4 x5 x6 x7 x8 x9 w) ?_
  refine field_true _ _ _ _ _ (by simp) _ _ _ (part_i _ 8 _ rfl w) (part_i _ 8 _ rfl w) (eq_int (d + 1) _ w) ?_
  refine field_true _ _ _ _ _ (by simp) _ _ _ (part_i _ 9 _ rfl w) (part_i _ 9 _ rfl w) (eq_int (d + 1) _ w) ?_
  refine field_true _ _ _ _ _ (by simp) _ _ _ (part_i _ 10 _ rfl w) (part_i _ 10 _ rfl w) (eq_int (d + 1) _ w) ?_
  refine field_true _ _ _ _ _ (by simp) _ _ _ (part_i _ 11 _ rfl w) (part_i _ 11 _ rfl w) (eq_int (d + 1) _ w) ?_
  refine field_true _ _ _ _ _ (by simp) _ _ _ (part_i _ 12 _ rfl w) (part_i _ 12 _ rfl w) (eq_int (d + 1) _ w) ?_
  refine field_true _ _ _ _ _ (by simp) _ _ _ (part_i _ 13 _ rfl w) (part_i _ 13 _ rfl w) (eq_int (d + 1) _ w) ?_
  refine field_true _ _ _ _ _ (by simp) _ _ _ (part_i _ 14 _ rfl w) (part_i _ 14 _ rfl w) (eq_int (d + 1) _ w) ?_
  refine field_true _ _ _ _ _ (by simp) _ _ _ (part_i _ 15 _ rfl w) (part_i _ 15 _ rfl w) (eq_int (d + 1) _ w) ?_
  refine field_true _ _ _ _ _ (by simp) _ _ _ (part_i _ 16 _ rfl w) (part_i _ 16 _ rfl w) (eq_int (d + 1) _ w) ?_
  simp [Op.eqFields]
set_option maxRecDepth 100000 in
set_option maxHeartbeats 8000000 in
theorem eq_opts1 (d : Nat) (x0 x1 x2 x3 x4 x5 x6 x7 x8 x9 x10 x11 x12 x13 x14 x15 x16 x17 x18 : Int) (w : World) : (Op.equalIn (d + 1 + 1 + 1 + 1) 27 (.agg #[.int .i64 x0, .int .i64 x1, .int .i64 x2, .int .i64 x3, .int .i64 x4, .int .i64 x5, .int .i64 x6, .int .i64 x7, .int .i64 x8, .int .i64 x9, .int .i64 x10, .int .i64 x11, .int .i64 x12, .int .i64 x13, .int .i64 x14, .int .i64 x15, .int .i64 x16, .int .i64 x17, .int .i64 x18]) (.agg #[.int .i64 x0, .int .i64 x1, .int .i64 x2, .int .i64 x3, .int .i64 x4, .int .i64 x5, .int .i64 x6, .int .i64 x7, .int .i64 x8, .int .i64 x9, .int .i64 x10, .int .i64 x11, .int .i64 x12, .int .i64 x13, .int .i64 x14, .int .i64 x15, .int .i64 x16, .int .i64 x17, .int .i64 x18])).run Tryz.prog w = .ok true w := by
  obtain ⟨fs, hfs⟩ : ∃ fs, Tryz.prog.fieldsOf 27 = fs := ⟨_, rfl⟩
  have hfe := hfs
  simp only [Program.fieldsOf, Tryz.underlying27] at hfe
  rw [run_equalIn_struct w (d + 1 + 1 + 1) 27 _ _ (by rw [hfs, ← hfe]; exact Tryz.underlying27) (by kernel_rfl), hfs, ← hfe]
  refine field_true _ _ _ _ _ (by simp) _ _ _ (part_i _ 0 _ rfl w) (part_i _ 0 _ rfl w) (eq_int (d + 1 + 1) _ w) ?_
  refine field_true _ _ _ _ _ (by simp) _ _ _ (part_i _ 1 _ rfl w) (part_i _ 1 _ rfl w) (eq_int (d + 1 + 1) _ w) ?_
  refine field_true _ _ _ _ _ (by simp) _ _ _ (part_st _ _ 2 17 _ Tryz.underlying25 (by kernel_rfl) (by simp) w) (part_st _ _ 2 17 _ Tryz.underlying25 (by kernel_rfl) (by simp) w) (eq_node d x2 x3 x4 x5 x6 x7 x8 x9 x10 x11 x12 x13 x14 x15 x16 x17 x18 w) ?_
  simp [Op.eqFields]
theorem eq_opts (x0 x1 x2 x3 x4 x5 x6 x7 x8 x9 x10 x11 x12 x13 x14 x15 x16 x17 x18 : Int) (w : World) : (Op.equalIn 10000 27 (.agg #[.int .i64 x0, .int .i64 x1, .int .i64 x2, .int .i64 x3, .int .i64 x4, .int .i64 x5, .int .i64 x6, .int .i64 x7, .int .i64 x8, .int .i64 x9, .int .i64 x10, .int .i64 x11, .int .i64 x12, .int .i64 x13, .int .i64 x14, .int .i64 x15, .int .i64 x16, .int .i64 x17, .int .i64 x18]) (.agg #[.int .i64 x0, .int .i64 x1, .int .i64 x2, .int .i64 x3, .int .i64 x4, .int .i64 x5, .int .i64 x6, .int .i64 x7, .int .i64 x8, .int .i64 x9, .int .i64 x10, .int .i64 x11, .int .i64 x12, .int .i64 x13, .int .i64 x14, .int .i64 x15, .int .i64 x16, .int .i64 x17, .int .i64 x18])).run Tryz.prog w = .ok true w := by
  have h := eq_opts1 9996 x0 x1 x2 x3 x4 x5 x6 x7 x8 x9 x10 x11 x12 x13 x14 x15 x16 x17 x18 w
  rwa [show 9996 + 1 + 1 + 1 + 1 = 10000 from rfl] at h
end Go.Proofs.YtbckogojnjmjcabGreatDoor
