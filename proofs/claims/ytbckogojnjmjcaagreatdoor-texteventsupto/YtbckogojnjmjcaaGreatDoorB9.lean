/-
  Whether two acts are the same.
-/
import Derived.Test.YtbckogojnjmjcaaGreatDoorB3
import Derived.DeepKeys
namespace Go.Proofs.YtbckogojnjmjcaaGreatDoor
open Go.RowKit Go.Shelf

theorem run_eq_int (d : Nat) (a c : Int) (w : World) : (Op.equalIn (d + 1) 3 (.int .i64 a) (.int .i64 c)).run Tryz.prog w = .ok (a == c) w := by
  simp [Op.equalIn, run_underlying Tryz.underlying3]
theorem str_beq (a c : Bs) : ((⟨a.toArray⟩ : ByteArray) == ⟨c.toArray⟩) = (a == c) := by
  show (a.toArray == c.toArray) = _
  simp
theorem run_eq_str (d : Nat) (a c : Bs) (w : World) : (Op.equalIn (d + 1) 9 (str a) (str c)).run Tryz.prog w = .ok (a == c) w := by
  unfold str
  simp [Op.equalIn, run_underlying Tryz.underlying9, str_beq]
theorem part_i (l : Array Value) (i : Nat) (x : Value) (h : l[i]? = some x) (w : World) : (part 3 l i).run Tryz.prog w = .ok x w := by
  simp [part, isAgg, run_underlying Tryz.underlying3, h]
theorem part_s (l : Array Value) (i : Nat) (x : Value) (h : l[i]? = some x) (w : World) : (part 9 l i).run Tryz.prog w = .ok x w := by
  simp [part, isAgg, run_underlying Tryz.underlying9, h]
def acEq (x y : Ac) : Bool := x.kind == y.kind && (x.node == y.node && (x.client == y.client && (x.n == y.n && (x.m == y.m && (x.op == y.op && (x.key == y.key && (x.val == y.val && x.old == y.old)))))))
theorem acEq_iff (x y : Ac) : acEq x y = decide (x = y) := by
  obtain ⟨a1, a2, a3, a4, a5, a6, a7, a8, a9⟩ := x
  obtain ⟨b1, b2, b3, b4, b5, b6, b7, b8, b9⟩ := y
  rw [Bool.eq_iff_iff]
  simp [acEq]
theorem field_step (d : Nat) (xs ys : Array Value) (f : Field) (fs : List Field) (hn : f.name ≠ "_") (a b : Value) (w : World) (h1 : (part f.type xs f.offset).run Tryz.prog w = .ok a w) (h2 : (part f.type ys f.offset).run Tryz.prog w = .ok b w) (q r : Bool) (h3 : (Op.equalIn d f.type a b).run Tryz.prog w = .ok q w) (h4 : (Op.eqFields d xs ys fs).run Tryz.prog w = .ok r w) : (Op.eqFields d xs ys (f :: fs)).run Tryz.prog w = .ok (q && r) w := by
  simp only [Op.eqFields, hn, ne_eq, not_false_eq_true, if_true, Sem.run_bind, h1, h2, h3, Result.andThen_ok]
  cases q
  · simp
  · simpa using h4
set_option maxRecDepth 100000 in
set_option maxHeartbeats 4000000 in
theorem run_eq_act1 (d : Nat) (x y : Ac) (w : World) : (Op.equalIn (d + 1 + 1) 34 (.agg x.cells) (.agg y.cells)).run Tryz.prog w = .ok (decide (x = y)) w := by
  obtain ⟨fs, hfs⟩ : ∃ fs, Tryz.prog.fieldsOf 34 = fs := ⟨_, rfl⟩
  have hfe := hfs
  simp only [Program.fieldsOf, Tryz.underlying34] at hfe
  rw [run_equalIn_struct w (d + 1) 34 x.cells y.cells (by rw [hfs, ← hfe]; exact Tryz.underlying34) (by kernel_rfl), hfs, ← acEq_iff, ← hfe]
  unfold acEq
  refine field_step _ _ _ _ _ (by simp) _ _ _ (part_i _ 0 _ rfl w) (part_i _ 0 _ rfl w) _ _ (run_eq_int d _ _ w) ?_
  refine field_step _ _ _ _ _ (by simp) _ _ _ (part_i _ 1 _ rfl w) (part_i _ 1 _ rfl w) _ _ (run_eq_int d _ _ w) ?_
  refine field_step _ _ _ _ _ (by simp) _ _ _ (part_i _ 2 _ rfl w) (part_i _ 2 _ rfl w) _ _ (run_eq_int d _ _ w) ?_
  refine field_step _ _ _ _ _ (by simp) _ _ _ (part_i _ 3 _ rfl w) (part_i _ 3 _ rfl w) _ _ (run_eq_int d _ _ w) ?_
  refine field_step _ _ _ _ _ (by simp) _ _ _ (part_i _ 4 _ rfl w) (part_i _ 4 _ rfl w) _ _ (run_eq_int d _ _ w) ?_
  refine field_step _ _ _ _ _ (by simp) _ _ _ (part_i _ 5 _ rfl w) (part_i _ 5 _ rfl w) _ _ (run_eq_int d _ _ w) ?_
  refine field_step _ _ _ _ _ (by simp) _ _ _ (part_s _ 6 _ rfl w) (part_s _ 6 _ rfl w) _ _ (run_eq_str d _ _ w) ?_
  refine field_step _ _ _ _ _ (by simp) _ _ _ (part_s _ 7 _ rfl w) (part_s _ 7 _ rfl w) _ _ (run_eq_str d _ _ w) ?_
  have h9 : (Op.eqFields (d + 1) x.cells y.cells []).run Tryz.prog w = .ok true w := by simp [Op.eqFields]
  rw [← Bool.and_true (x.old == y.old)]
  exact field_step _ _ _ _ _ (by simp) _ _ _ (part_s _ 8 _ rfl w) (part_s _ 8 _ rfl w) _ _ (run_eq_str d _ _ w) h9
theorem run_eq_act (x y : Ac) (w : World) : (Op.equalIn 10000 34 (.agg x.cells) (.agg y.cells)).run Tryz.prog w = .ok (decide (x = y)) w := by
  have h := run_eq_act1 9998 x y w
  rwa [show 9998 + 1 + 1 = 10000 from rfl] at h
end Go.Proofs.YtbckogojnjmjcaaGreatDoor
