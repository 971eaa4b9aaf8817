/-
  Whether two options of the document are the same. Options carried to the document's type.
-/
import Derived.Test.YtbckogojnjmjcaaGreatDoorPc
import Derived.Test.YtbckogojnjmjcaaGreatDoorQ3
import Derived.Deep.MidRow
namespace Go.Proofs.YtbckogojnjmjcaaGreatDoor
open Go.RowKit Go.Shelf

theorem part_stR (t : TypeId) (l : Array Value) (i n : Nat) (fs : Array Field) (hu : Tryz.prog.underlying t = some (.struct fs)) (hc : Tryz.prog.cellsOf t = n) (_hi : i + n ≤ l.size) (w : World) : (part t l i).run Tryz.prog w = .ok (.agg (l.extract i (i + n))) w := by
  obtain ⟨inf, hinf⟩ := info_of_underlying hu
  have hsz : inf.size = n := by rw [← hc]; simp [Program.cellsOf, hinf]
  simp [part, isAgg, run_underlying hu, sizeOf, typeInfo, hinf, hsz]
theorem field_trueR (d : Nat) (xs ys : Array Value) (f : Field) (fs : List Field) (hn : f.name ≠ "_") (a b : Value) (w : World) (h1 : (part f.type xs f.offset).run Tryz.prog w = .ok a w) (h2 : (part f.type ys f.offset).run Tryz.prog w = .ok b w) (h3 : (Op.equalIn d f.type a b).run Tryz.prog w = .ok true w) (h4 : (Op.eqFields d xs ys fs).run Tryz.prog w = .ok true w) : (Op.eqFields d xs ys (f :: fs)).run Tryz.prog w = .ok true w :=
  field_step d xs ys f fs hn a b w h1 h2 true true h3 h4
theorem eq_intR (d : Nat) (a : Int) (w : World) : (Op.equalIn (d + 1) 3 (.int .i64 a) (.int .i64 a)).run Tryz.prog w = .ok true w := by rw [run_eq_int]; simp
set_option maxRecDepth 100000 in
set_option maxHeartbeats 8000000 in
theorem eq_coreR (d : Nat) (x2 x3 x4 x5 x6 x7 x8 x9 : Int) (w : World) : (Op.equalIn (d + 1 + 1) 55 (.agg #[.int .i64 x2, .int .i64 x3, .int .i64 x4, .int .i64 x5, .int .i64 x6, .int .i64 x7, .int .i64 x8, .int .i64 x9]) (.agg #[.int .i64 x2, .int .i64 x3, .int .i64 x4, .int .i64 x5, .int .i64 x6, .int .i64 x7, .int .i64 x8, .int .i64 x9])).run Tryz.prog w = .ok true w := by
  obtain ⟨fs, hfs⟩ : ∃ fs, Tryz.prog.fieldsOf 55 = fs := ⟨_, rfl⟩
  have hfe := hfs
  simp only [Program.fieldsOf, Tryz.underlying55] at hfe
  rw [run_equalIn_struct w (d + 1) 55 _ _ (by rw [hfs, ← hfe]; exact Tryz.underlying55) (by kernel_rfl), hfs, ← hfe]
  refine field_trueR _ _ _ _ _ (by simp) _ _ _ (part_i _ 0 _ rfl w) (part_i _ 0 _ rfl w) (eq_intR d _ w) ?_
  refine field_trueR _ _ _ _ _ (by simp) _ _ _ (part_i _ 1 _ rfl w) (part_i _ 1 _ rfl w) (eq_intR d _ w) ?_
  refine field_trueR _ _ _ _ _ (by simp) _ _ _ (part_i _ 2 _ rfl w) (part_i _ 2 _ rfl w) (eq_intR d _ w) ?_
  refine field_trueR _ _ _ _ _ (by simp) _ _ _ (part_i _ 3 _ rfl w) (part_i _ 3 _ rfl w) (eq_intR d _ w) ?_
  refine field_trueR _ _ _ _ _ (by simp) _ _ _ (part_i _ 4 _ rfl w) (part_i _ 4 _ rfl w) (eq_intR d _ w) ?_
  refine field_trueR _ _ _ _ _ (by simp) _ _ _ (part_i _ 5 _ rfl w) (part_i _ 5 _ rfl w) (eq_intR d _ w) ?_
  refine field_trueR _ _ _ _ _ (by simp) _ _ _ (part_i _ 6 _ rfl w) (part_i _ 6 _ rfl w) (eq_intR d _ w) ?_
  refine field_trueR _ _ _ _ _ (by simp) _ _ _ (part_i _ 7 _ rfl w) (part_i _ 7 _ rfl w) (eq_intR d _ w) ?_
  simp [Op.eqFields]
set_option maxRecDepth 100000 in
set_option maxHeartbeats 8000000 in
theorem eq_nodeR (d : Nat) (x2 x3 x4 x5 x6 x7 x8 x9 x10 x11 x12 x13 x14 x15 x16 x17 x18 : Int) (w : World) : (Op.equalIn (d + 1 + 1 + 1) 57 (.agg #[.int .i64 x2, .int .i64 x3, .int .i64 x4, .int .i64 x5, .int .i64 x6, .int .i64 x7, .int .i64 x8, .int .i64 x9, .int .i64 x10, .int .i64 x11, .int .i64 x12, .int .i64 x13, .int .i64 x14, .int .i64 x15, .int .i64 x16, .int .i64 x17, .int .i64 x18]) (.agg #[.int .i64 x2, .int .i64 x3, .int .i64 x4, .int .i64 x5, .int .i64 x6, .int .i64 x7, .int .i64 x8, .int .i64 x9, .int .i64 x10, .int .i64 x11, .int .i64 x12, .int .i64 x13, .int .i64 x14, .int .i64 x15, .int .i64 x16, .int .i64 x17, .int .i64 x18])).run Tryz.prog w = .ok true w := by
  obtain ⟨fs, hfs⟩ : ∃ fs, Tryz.prog.fieldsOf 57 = fs := ⟨_, rfl⟩
  have hfe := hfs
  simp only [Program.fieldsOf, Tryz.underlying57] at hfe
  rw [run_equalIn_struct w (d + 1 + 1) 57 _ _ (by rw [hfs, ← hfe]; exact Tryz.underlying57) (by kernel_rfl), hfs, ← hfe]
  refine field_trueR _ _ _ _ _ (by simp) _ _ _ (part_stR _ _ 0 8 _ Tryz.underlying55 (by kernel_rfl) (by simp) w) (part_stR _ _ 0 8 _ Tryz.underlying55 (by kernel_rfl) (by simp) w) (eq_coreR d x2 x3 x4 x5 x6 x7 x8 x9 w) ?_
  refine field_trueR _ _ _ _ _ (by simp) _ _ _ (part_i _ 8 _ rfl w) (part_i _ 8 _ rfl w) (eq_intR (d + 1) _ w) ?_
  refine field_trueR _ _ _ _ _ (by simp) _ _ _ (part_i _ 9 _ rfl w) (part_i _ 9 _ rfl w) (eq_intR (d + 1) _ w) ?_
  refine field_trueR _ _ _ _ _ (by simp) _ _ _ (part_i _ 10 _ rfl w) (part_i _ 10 _ rfl w) (eq_intR (d + 1) _ w) ?_
  refine field_trueR _ _ _ _ _ (by simp) _ _ _ (part_i _ 11 _ rfl w) (part_i _ 11 _ rfl w) (eq_intR (d + 1) _ w) ?_
  refine field_trueR _ _ _ _ _ (by simp) _ _ _ (part_i _ 12 _ rfl w) (part_i _ 12 _ rfl w) (eq_intR (d + 1) _ w) ?_
  refine field_trueR _ _ _ _ _ (by simp) _ _ _ (part_i _ 13 _ rfl w) (part_i _ 13 _ rfl w) (eq_intR (d + 1) _ w) ?_
  refine field_trueR _ _ _ _ _ (by simp) _ _ _ (part_i _ 14 _ rfl w) (part_i _ 14 _ rfl w) (eq_intR (d + 1) _ w) ?_
  refine field_trueR _ _ _ _ _ (by simp) _ _ _ (part_i _ 15 _ rfl w) (part_i _ 15 _ rfl w) (eq_intR (d + 1) _ w) ?_
  refine field_trueR _ _ _ _ _ (by simp) _ _ _ (part_i _ 16 _ rfl w) (part_i _ 16 _ rfl w) (eq_intR (d + 1) _ w) ?_
  simp [Op.eqFields]
set_option maxRecDepth 100000 in
set_option maxHeartbeats 8000000 in
theorem eq_opts1R (d : Nat) (x0 x1 x2 x3 x4 x5 x6 x7 x8 x9 x10 x11 x12 x13 x14 x15 x16 x17 x18 : Int) (w : World) : (Op.equalIn (d + 1 + 1 + 1 + 1) 59 (.agg #[.int .i64 x0, .int .i64 x1, .int .i64 x2, .int .i64 x3, .int .i64 x4, .int .i64 x5, .int .i64 x6, .int .i64 x7, .int .i64 x8, .int .i64 x9, .int .i64 x10, .int .i64 x11, .int .i64 x12, .int .i64 x13, .int .i64 x14, .int .i64 x15, .int .i64 x16, .int .i64 x17, .int .i64 x18]) (.agg #[.int .i64 x0, .int .i64 x1, .int .i64 x2, .int .i64 x3, .int .i64 x4, .int .i64 x5, .int .i64 x6, .int .i64 x7, .int .i64 x8, .int .i64 x9, .int .i64 x10, .int .i64 x11, .int .i64 x12, .int .i64 x13, .int .i64 x14, .int .i64 x15, .int .i64 x16, .int .i64 x17, .int .i64 x18])).run Tryz.prog w = .ok true w := by
  obtain ⟨fs, hfs⟩ : ∃ fs, Tryz.prog.fieldsOf 59 = fs := ⟨_, rfl⟩
  have hfe := hfs
  simp only [Program.fieldsOf, Tryz.underlying59] at hfe
  rw [run_equalIn_struct w (d + 1 + 1 + 1) 59 _ _ (by rw [hfs, ← hfe]; exact Tryz.underlying59) (by kernel_rfl), hfs, ← hfe]
  refine field_trueR _ _ _ _ _ (by simp) _ _ _ (part_i _ 0 _ rfl w) (part_i _ 0 _ rfl w) (eq_intR (d + 1 + 1) _ w) ?_
  refine field_trueR _ _ _ _ _ (by simp) _ _ _ (part_i _ 1 _ rfl w) (part_i _ 1 _ rfl w) (eq_intR (d + 1 + 1) _ w) ?_
  refine field_trueR _ _ _ _ _ (by simp) _ _ _ (part_stR _ _ 2 17 _ Tryz.underlying57 (by kernel_rfl) (by simp) w) (part_stR _ _ 2 17 _ Tryz.underlying57 (by kernel_rfl) (by simp) w) (eq_nodeR d x2 x3 x4 x5 x6 x7 x8 x9 x10 x11 x12 x13 x14 x15 x16 x17 x18 w) ?_
  simp [Op.eqFields]
theorem eq_optsR (x0 x1 x2 x3 x4 x5 x6 x7 x8 x9 x10 x11 x12 x13 x14 x15 x16 x17 x18 : Int) (w : World) : (Op.equalIn 10000 59 (.agg #[.int .i64 x0, .int .i64 x1, .int .i64 x2, .int .i64 x3, .int .i64 x4, .int .i64 x5, .int .i64 x6, .int .i64 x7, .int .i64 x8, .int .i64 x9, .int .i64 x10, .int .i64 x11, .int .i64 x12, .int .i64 x13, .int .i64 x14, .int .i64 x15, .int .i64 x16, .int .i64 x17, .int .i64 x18]) (.agg #[.int .i64 x0, .int .i64 x1, .int .i64 x2, .int .i64 x3, .int .i64 x4, .int .i64 x5, .int .i64 x6, .int .i64 x7, .int .i64 x8, .int .i64 x9, .int .i64 x10, .int .i64 x11, .int .i64 x12, .int .i64 x13, .int .i64 x14, .int .i64 x15, .int .i64 x16, .int .i64 x17, .int .i64 x18])).run Tryz.prog w = .ok true w := by
  have h := eq_opts1R 9996 x0 x1 x2 x3 x4 x5 x6 x7 x8 x9 x10 x11 x12 x13 x14 x15 x16 x17 x18 w
  rwa [show 9996 + 1 + 1 + 1 + 1 = 10000 from rfl] at h
end Go.Proofs.YtbckogojnjmjcaaGreatDoor
namespace Go.Proofs.YtbckogojnjmjcaaGreatDoor
open Go.RowKit Go.Shelf

theorem heap_new2o (w : World) (a b : Obj) : ((w.alloc a).alloc b).heap[w.heap.size + 1]? = some b := by
  have := heap_alloc_new (w.alloc a) b
  simpa only [World.size_alloc] using this
set_option maxRecDepth 100000 in
theorem rconv10 (x0 x1 x2 x3 x4 x5 x6 x7 : Int) (w : World) : Calls Tryz.prog 81 #[.agg #[.int .i64 x0, .int .i64 x1, .int .i64 x2, .int .i64 x3, .int .i64 x4, .int .i64 x5, .int .i64 x6, .int .i64 x7]] w fun e w' => e = .returned (.agg #[.int .i64 x0, .int .i64 x1, .int .i64 x2, .int .i64 x3, .int .i64 x4, .int .i64 x5, .int .i64 x6, .int .i64 x7]) ∧ Below w.heap.size w w' := by
  go_enter Tryz.func81, Tryz.ntmps81
  go_wp2
  refine bodyPost_ret (results_cell_row rfl _ _ (w.heap.size + 1) 55 _ (0, 0) _ rfl (heap_new2o w _ _) Tryz.underlying55 rfl (by kernel_rfl)) rfl ?_
  exact ⟨rfl, ((Below.refl _ _).alloc (Nat.le_refl _) _).alloc (by simp) _⟩
theorem load_midE {P : Program} {o : Oper} {a : Act} {w : World} {t : TypeId} {x : Operand} {b off : Nat} {v : Value} (ho : o.op = .load t x) (hx : a.eval x = .pointer (some ⟨b, off, none⟩)) (h : (loadVar t ⟨b, off, none⟩).run P w = .ok v w) : (execOp a.eval o).run P w = .ok (.value v) w := by
  unfold execOp
  simp only [ho, hx, Instr.loadAt, Instr.sureAddr, Sem.run_bind, Sem.run_pure, Result.andThen_ok, h]
theorem range_of {w : World} {b : Nat} {X : Array Value} {t : TypeId} {fr : Nat × Nat} {o : Nat} {cs : List Value} (h : w.heap[b]? = some (.cells X t fr)) (hc : cs = (X.toList.drop o).take cs.length) : w.rangeAt b o cs := fun j v hj => by
  have hlt := (List.getElem?_eq_some_iff.1 hj).1
  simp only [World.cell?, h]
  rw [hc, List.getElem?_take, if_pos hlt, List.getElem?_drop] at hj
  simpa using hj
set_option maxRecDepth 100000 in
set_option maxHeartbeats 4000000 in
theorem rconv12 (x0 x1 x2 x3 x4 x5 x6 x7 x8 x9 x10 x11 x12 x13 x14 x15 x16 : Int) (w : World) : Calls Tryz.prog 57 #[.agg #[.int .i64 x0, .int .i64 x1, .int .i64 x2, .int .i64 x3, .int .i64 x4, .int .i64 x5, .int .i64 x6, .int .i64 x7, .int .i64 x8, .int .i64 x9, .int .i64 x10, .int .i64 x11, .int .i64 x12, .int .i64 x13, .int .i64 x14, .int .i64 x15, .int .i64 x16]] w fun e w' => e = .returned (.agg #[.int .i64 x0, .int .i64 x1, .int .i64 x2, .int .i64 x3, .int .i64 x4, .int .i64 x5, .int .i64 x6, .int .i64 x7, .int .i64 x8, .int .i64 x9, .int .i64 x10, .int .i64 x11, .int .i64 x12, .int .i64 x13, .int .i64 x14, .int .i64 x15, .int .i64 x16]) ∧ Below w.heap.size w w' := by
  have s0' : ((w.alloc (.cells #[.int .i64 x0, .int .i64 x1, .int .i64 x2, .int .i64 x3, .int .i64 x4, .int .i64 x5, .int .i64 x6, .int .i64 x7, .int .i64 x8, .int .i64 x9, .int .i64 x10, .int .i64 x11, .int .i64 x12, .int .i64 x13, .int .i64 x14, .int .i64 x15, .int .i64 x16] 50)).alloc (.cells #[.int .i64 0, .int .i64 0, .int .i64 0, .int .i64 0, .int .i64 0, .int .i64 0, .int .i64 0, .int .i64 0, .int .i64 0, .int .i64 0, .int .i64 0, .int .i64 0, .int .i64 0, .int .i64 0, .int .i64 0, .int .i64 0, .int .i64 0] 57)).heap[w.heap.size]? = some (.cells #[.int .i64 x0, .int .i64 x1, .int .i64 x2, .int .i64 x3, .int .i64 x4, .int .i64 x5, .int .i64 x6, .int .i64 x7, .int .i64 x8, .int .i64 x9, .int .i64 x10, .int .i64 x11, .int .i64 x12, .int .i64 x13, .int .i64 x14, .int .i64 x15, .int .i64 x16] 50 (0, 0)) := (Below.heap_alloc _ _ _ (by simp)).trans (heap_alloc_new w _)
  have s1' : ((w.alloc (.cells #[.int .i64 x0, .int .i64 x1, .int .i64 x2, .int .i64 x3, .int .i64 x4, .int .i64 x5, .int .i64 x6, .int .i64 x7, .int .i64 x8, .int .i64 x9, .int .i64 x10, .int .i64 x11, .int .i64 x12, .int .i64 x13, .int .i64 x14, .int .i64 x15, .int .i64 x16] 50)).alloc (.cells #[.int .i64 0, .int .i64 0, .int .i64 0, .int .i64 0, .int .i64 0, .int .i64 0, .int .i64 0, .int .i64 0, .int .i64 0, .int .i64 0, .int .i64 0, .int .i64 0, .int .i64 0, .int .i64 0, .int .i64 0, .int .i64 0, .int .i64 0] 57)).heap[w.heap.size + 1]? = some (.cells #[.int .i64 0, .int .i64 0, .int .i64 0, .int .i64 0, .int .i64 0, .int .i64 0, .int .i64 0, .int .i64 0, .int .i64 0, .int .i64 0, .int .i64 0, .int .i64 0, .int .i64 0, .int .i64 0, .int .i64 0, .int .i64 0, .int .i64 0] 57 (0, 0)) := heap_new2o w _ _
  have s2' : Hid (Below w.heap.size w ((w.alloc (.cells #[.int .i64 x0, .int .i64 x1, .int .i64 x2, .int .i64 x3, .int .i64 x4, .int .i64 x5, .int .i64 x6, .int .i64 x7, .int .i64 x8, .int .i64 x9, .int .i64 x10, .int .i64 x11, .int .i64 x12, .int .i64 x13, .int .i64 x14, .int .i64 x15, .int .i64 x16] 50)).alloc (.cells #[.int .i64 0, .int .i64 0, .int .i64 0, .int .i64 0, .int .i64 0, .int .i64 0, .int .i64 0, .int .i64 0, .int .i64 0, .int .i64 0, .int .i64 0, .int .i64 0, .int .i64 0, .int .i64 0, .int .i64 0, .int .i64 0, .int .i64 0] 57))) := ((Below.refl _ _).alloc (Nat.le_refl _) _).alloc (by simp) _
  have S0 : Hid _ := s0'
  have S1 : Hid _ := s1'
  clear s0' s1'
  go_enter Tryz.func57, Tryz.ntmps57
  go_upto_region 1 with fail
  have s0 := S0.out
  have s1 := S1.out
  have s1z : (#[.int .i64 0, .int .i64 0, .int .i64 0, .int .i64 0, .int .i64 0, .int .i64 0, .int .i64 0, .int .i64 0, .int .i64 0, .int .i64 0, .int .i64 0, .int .i64 0, .int .i64 0, .int .i64 0, .int .i64 0, .int .i64 0, .int .i64 0] : Array Value).size = 17 := rfl
  have s2 : Hid (Below w.heap.size w (World.drew ((w.alloc (.cells #[.int .i64 x0, .int .i64 x1, .int .i64 x2, .int .i64 x3, .int .i64 x4, .int .i64 x5, .int .i64 x6, .int .i64 x7, .int .i64 x8, .int .i64 x9, .int .i64 x10, .int .i64 x11, .int .i64 x12, .int .i64 x13, .int .i64 x14, .int .i64 x15, .int .i64 x16] 50)).alloc (.cells #[.int .i64 0, .int .i64 0, .int .i64 0, .int .i64 0, .int .i64 0, .int .i64 0, .int .i64 0, .int .i64 0, .int .i64 0, .int .i64 0, .int .i64 0, .int .i64 0, .int .i64 0, .int .i64 0, .int .i64 0, .int .i64 0, .int .i64 0] 57)))) := s2'.out.drew
  refine wp_region_held_drew (S := fun V => V.heap[w.heap.size]? = some (.cells #[.int .i64 x0, .int .i64 x1, .int .i64 x2, .int .i64 x3, .int .i64 x4, .int .i64 x5, .int .i64 x6, .int .i64 x7, .int .i64 x8, .int .i64 x9, .int .i64 x10, .int .i64 x11, .int .i64 x12, .int .i64 x13, .int .i64 x14, .int .i64 x15, .int .i64 x16] 50 (0, 0)) ∧ (∃ cs : Array Value, cs.size = 17 ∧ V.heap[w.heap.size + 1]? = some (.cells cs 57 (0, 0))) ∧ Hid (Below w.heap.size w V)) (by kernel_rfl) ⟨s0, ⟨_, s1z, s1⟩, s2⟩ (fun hHeld => ?_)
  refine wpAnyH_take (i := 0) (oi := { dst := some 3, op := Op.fieldAddr 50 (Operand.tmp 1) 0, type := 0, pos := "law.go:44", after := #[], guard := none }) (v := .pointer (some ⟨w.heap.size, 0, none⟩)) rfl (by kernel_rfl) (by kernel_rfl) (by kernel_rfl) (fun _ _ _ h => h) (Or.inl ⟨by rfl, ?h0⟩) hHeld ?_
  case h0 => intro wv hSw; (try dsimp only at hSw); kernel_rfl
  try simp only [Act.put, List.setIfInBounds_toArray, List.set_cons_zero, List.set_cons_succ]
  refine wpAnyH_take (i := 1) (oi := { dst := some 4, op := Op.load 48 (Operand.tmp 3), type := 48, pos := "law.go:44", after := #[{ on := 0, ground := Ground.data }], guard := none }) (v := .agg #[.int .i64 x0, .int .i64 x1, .int .i64 x2, .int .i64 x3, .int .i64 x4, .int .i64 x5, .int .i64 x6, .int .i64 x7]) rfl (by kernel_rfl) (by kernel_rfl) (by kernel_rfl) (fun _ _ _ h => h) (Or.inl ⟨by rfl, ?h1⟩) hHeld ?_
  case h1 => intro wv hSw; (try dsimp only at hSw); exact load_midE rfl (by kernel_rfl) (run_loadVar_mid (P := Tryz.prog) _ w.heap.size 0 48 [.int .i64 x0, .int .i64 x1, .int .i64 x2, .int .i64 x3, .int .i64 x4, .int .i64 x5, .int .i64 x6, .int .i64 x7] _ (range_of hSw.1 rfl) Tryz.underlying48 rfl (by kernel_rfl))
  try simp only [Act.put, List.setIfInBounds_toArray, List.set_cons_zero, List.set_cons_succ]
  refine wpAnyH_take (i := 3) (oi := { dst := some 6, op := Op.fieldAddr 50 (Operand.tmp 1) 1, type := 0, pos := "law.go:44", after := #[], guard := none }) (v := .pointer (some ⟨w.heap.size, 8, none⟩)) rfl (by kernel_rfl) (by kernel_rfl) (by kernel_rfl) (fun _ _ _ h => h) (Or.inl ⟨by rfl, ?h3⟩) hHeld ?_
  case h3 => intro wv hSw; (try dsimp only at hSw); kernel_rfl
  try simp only [Act.put, List.setIfInBounds_toArray, List.set_cons_zero, List.set_cons_succ]
  refine wpAnyH_take (i := 4) (oi := { dst := some 7, op := Op.load 3 (Operand.tmp 6), type := 3, pos := "law.go:44", after := #[{ on := 3, ground := Ground.data }], guard := none }) (v := .int .i64 x8) rfl (by kernel_rfl) (by kernel_rfl) (by kernel_rfl) (fun _ _ _ h => h) (Or.inl ⟨by rfl, ?h4⟩) hHeld ?_
  case h4 => intro wv hSw; (try dsimp only at hSw); have hc : wv.cell? ⟨w.heap.size, 8, none⟩ = some (.int .i64 x8) := (by have h0 := hSw.1; simp only [World.cell?, h0]; rfl); go_simp; try with_reducible rfl
  try simp only [Act.put, List.setIfInBounds_toArray, List.set_cons_zero, List.set_cons_succ]
  refine wpAnyH_take (i := 5) (oi := { dst := some 8, op := Op.fieldAddr 50 (Operand.tmp 1) 2, type := 0, pos := "law.go:44", after := #[], guard := none }) (v := .pointer (some ⟨w.heap.size, 9, none⟩)) rfl (by kernel_rfl) (by kernel_rfl) (by kernel_rfl) (fun _ _ _ h => h) (Or.inl ⟨by rfl, ?h5⟩) hHeld ?_
  case h5 => intro wv hSw; (try dsimp only at hSw); kernel_rfl
  try simp only [Act.put, List.setIfInBounds_toArray, List.set_cons_zero, List.set_cons_succ]
  refine wpAnyH_take (i := 6) (oi := { dst := some 9, op := Op.load 3 (Operand.tmp 8), type := 3, pos := "law.go:44", after := #[{ on := 5, ground := Ground.data }], guard := none }) (v := .int .i64 x9) rfl (by kernel_rfl) (by kernel_rfl) (by kernel_rfl) (fun _ _ _ h => h) (Or.inl ⟨by rfl, ?h6⟩) hHeld ?_
  case h6 => intro wv hSw; (try dsimp only at hSw); have hc : wv.cell? ⟨w.heap.size, 9, none⟩ = some (.int .i64 x9) := (by have h0 := hSw.1; simp only [World.cell?, h0]; rfl); go_simp; try with_reducible rfl
  try simp only [Act.put, List.setIfInBounds_toArray, List.set_cons_zero, List.set_cons_succ]
  refine wpAnyH_take (i := 7) (oi := { dst := some 10, op := Op.fieldAddr 50 (Operand.tmp 1) 3, type := 0, pos := "law.go:44", after := #[], guard := none }) (v := .pointer (some ⟨w.heap.size, 10, none⟩)) rfl (by kernel_rfl) (by kernel_rfl) (by kernel_rfl) (fun _ _ _ h => h) (Or.inl ⟨by rfl, ?h7⟩) hHeld ?_
  case h7 => intro wv hSw; (try dsimp only at hSw); kernel_rfl
  try simp only [Act.put, List.setIfInBounds_toArray, List.set_cons_zero, List.set_cons_succ]
  refine wpAnyH_take (i := 8) (oi := { dst := some 11, op := Op.load 3 (Operand.tmp 10), type := 3, pos := "law.go:44", after := #[{ on := 7, ground := Ground.data }], guard := none }) (v := .int .i64 x10) rfl (by kernel_rfl) (by kernel_rfl) (by kernel_rfl) (fun _ _ _ h => h) (Or.inl ⟨by rfl, ?h8⟩) hHeld ?_
  case h8 => intro wv hSw; (try dsimp only at hSw); have hc : wv.cell? ⟨w.heap.size, 10, none⟩ = some (.int .i64 x10) := (by have h0 := hSw.1; simp only [World.cell?, h0]; rfl); go_simp; try with_reducible rfl
  try simp only [Act.put, List.setIfInBounds_toArray, List.set_cons_zero, List.set_cons_succ]
  refine wpAnyH_take (i := 9) (oi := { dst := some 12, op := Op.fieldAddr 50 (Operand.tmp 1) 4, type := 0, pos := "law.go:44", after := #[], guard := none }) (v := .pointer (some ⟨w.heap.size, 11, none⟩)) rfl (by kernel_rfl) (by kernel_rfl) (by kernel_rfl) (fun _ _ _ h => h) (Or.inl ⟨by rfl, ?h9⟩) hHeld ?_
  case h9 => intro wv hSw; (try dsimp only at hSw); kernel_rfl
  try simp only [Act.put, List.setIfInBounds_toArray, List.set_cons_zero, List.set_cons_succ]
  refine wpAnyH_take (i := 10) (oi := { dst := some 13, op := Op.load 3 (Operand.tmp 12), type := 3, pos := "law.go:44", after := #[{ on := 9, ground := Ground.data }], guard := none }) (v := .int .i64 x11) rfl (by kernel_rfl) (by kernel_rfl) (by kernel_rfl) (fun _ _ _ h => h) (Or.inl ⟨by rfl, ?h10⟩) hHeld ?_
  case h10 => intro wv hSw; (try dsimp only at hSw); have hc : wv.cell? ⟨w.heap.size, 11, none⟩ = some (.int .i64 x11) := (by have h0 := hSw.1; simp only [World.cell?, h0]; rfl); go_simp; try with_reducible rfl
  try simp only [Act.put, List.setIfInBounds_toArray, List.set_cons_zero, List.set_cons_succ]
  refine wpAnyH_take (i := 11) (oi := { dst := some 14, op := Op.fieldAddr 50 (Operand.tmp 1) 5, type := 0, pos := "law.go:44", after := #[], guard := none }) (v := .pointer (some ⟨w.heap.size, 12, none⟩)) rfl (by kernel_rfl) (by kernel_rfl) (by kernel_rfl) (fun _ _ _ h => h) (Or.inl ⟨by rfl, ?h11⟩) hHeld ?_
  case h11 => intro wv hSw; (try dsimp only at hSw); kernel_rfl
  try simp only [Act.put, List.setIfInBounds_toArray, List.set_cons_zero, List.set_cons_succ]
  refine wpAnyH_take (i := 12) (oi := { dst := some 15, op := Op.load 3 (Operand.tmp 14), type := 3, pos := "law.go:44", after := #[{ on := 11, ground := Ground.data }], guard := none }) (v := .int .i64 x12) rfl (by kernel_rfl) (by kernel_rfl) (by kernel_rfl) (fun _ _ _ h => h) (Or.inl ⟨by rfl, ?h12⟩) hHeld ?_
  case h12 => intro wv hSw; (try dsimp only at hSw); have hc : wv.cell? ⟨w.heap.size, 12, none⟩ = some (.int .i64 x12) := (by have h0 := hSw.1; simp only [World.cell?, h0]; rfl); go_simp; try with_reducible rfl
  try simp only [Act.put, List.setIfInBounds_toArray, List.set_cons_zero, List.set_cons_succ]
  refine wpAnyH_take (i := 13) (oi := { dst := some 16, op := Op.fieldAddr 50 (Operand.tmp 1) 6, type := 0, pos := "law.go:44", after := #[], guard := none }) (v := .pointer (some ⟨w.heap.size, 13, none⟩)) rfl (by kernel_rfl) (by kernel_rfl) (by kernel_rfl) (fun _ _ _ h => h) (Or.inl ⟨by rfl, ?h13⟩) hHeld ?_
  case h13 => intro wv hSw; (try dsimp only at hSw); kernel_rfl
  try simp only [Act.put, List.setIfInBounds_toArray, List.set_cons_zero, List.set_cons_succ]
  refine wpAnyH_take (i := 14) (oi := { dst := some 17, op := Op.load 3 (Operand.tmp 16), type := 3, pos := "law.go:44", after := #[{ on := 13, ground := Ground.data }], guard := none }) (v := .int .i64 x13) rfl (by kernel_rfl) (by kernel_rfl) (by kernel_rfl) (fun _ _ _ h => h) (Or.inl ⟨by rfl, ?h14⟩) hHeld ?_
  case h14 => intro wv hSw; (try dsimp only at hSw); have hc : wv.cell? ⟨w.heap.size, 13, none⟩ = some (.int .i64 x13) := (by have h0 := hSw.1; simp only [World.cell?, h0]; rfl); go_simp; try with_reducible rfl
  try simp only [Act.put, List.setIfInBounds_toArray, List.set_cons_zero, List.set_cons_succ]
  refine wpAnyH_take (i := 15) (oi := { dst := some 18, op := Op.fieldAddr 50 (Operand.tmp 1) 7, type := 0, pos := "law.go:44", after := #[], guard := none }) (v := .pointer (some ⟨w.heap.size, 14, none⟩)) rfl (by kernel_rfl) (by kernel_rfl) (by kernel_rfl) (fun _ _ _ h => h) (Or.inl ⟨by rfl, ?h15⟩) hHeld ?_
  case h15 => intro wv hSw; (try dsimp only at hSw); kernel_rfl
  try simp only [Act.put, List.setIfInBounds_toArray, List.set_cons_zero, List.set_cons_succ]
  refine wpAnyH_take (i := 16) (oi := { dst := some 19, op := Op.load 3 (Operand.tmp 18), type := 3, pos := "law.go:44", after := #[{ on := 15, ground := Ground.data }], guard := none }) (v := .int .i64 x14) rfl (by kernel_rfl) (by kernel_rfl) (by kernel_rfl) (fun _ _ _ h => h) (Or.inl ⟨by rfl, ?h16⟩) hHeld ?_
  case h16 => intro wv hSw; (try dsimp only at hSw); have hc : wv.cell? ⟨w.heap.size, 14, none⟩ = some (.int .i64 x14) := (by have h0 := hSw.1; simp only [World.cell?, h0]; rfl); go_simp; try with_reducible rfl
  try simp only [Act.put, List.setIfInBounds_toArray, List.set_cons_zero, List.set_cons_succ]
  refine wpAnyH_take (i := 17) (oi := { dst := some 20, op := Op.fieldAddr 50 (Operand.tmp 1) 8, type := 0, pos := "law.go:44", after := #[], guard := none }) (v := .pointer (some ⟨w.heap.size, 15, none⟩)) rfl (by kernel_rfl) (by kernel_rfl) (by kernel_rfl) (fun _ _ _ h => h) (Or.inl ⟨by rfl, ?h17⟩) hHeld ?_
  case h17 => intro wv hSw; (try dsimp only at hSw); kernel_rfl
  try simp only [Act.put, List.setIfInBounds_toArray, List.set_cons_zero, List.set_cons_succ]
  refine wpAnyH_take (i := 18) (oi := { dst := some 21, op := Op.load 3 (Operand.tmp 20), type := 3, pos := "law.go:44", after := #[{ on := 17, ground := Ground.data }], guard := none }) (v := .int .i64 x15) rfl (by kernel_rfl) (by kernel_rfl) (by kernel_rfl) (fun _ _ _ h => h) (Or.inl ⟨by rfl, ?h18⟩) hHeld ?_
  case h18 => intro wv hSw; (try dsimp only at hSw); have hc : wv.cell? ⟨w.heap.size, 15, none⟩ = some (.int .i64 x15) := (by have h0 := hSw.1; simp only [World.cell?, h0]; rfl); go_simp; try with_reducible rfl
  try simp only [Act.put, List.setIfInBounds_toArray, List.set_cons_zero, List.set_cons_succ]
  refine wpAnyH_take (i := 19) (oi := { dst := some 22, op := Op.fieldAddr 50 (Operand.tmp 1) 9, type := 0, pos := "law.go:44", after := #[], guard := none }) (v := .pointer (some ⟨w.heap.size, 16, none⟩)) rfl (by kernel_rfl) (by kernel_rfl) (by kernel_rfl) (fun _ _ _ h => h) (Or.inl ⟨by rfl, ?h19⟩) hHeld ?_
  case h19 => intro wv hSw; (try dsimp only at hSw); kernel_rfl
  try simp only [Act.put, List.setIfInBounds_toArray, List.set_cons_zero, List.set_cons_succ]
  refine wpAnyH_take (i := 20) (oi := { dst := some 23, op := Op.load 3 (Operand.tmp 22), type := 3, pos := "law.go:44", after := #[{ on := 19, ground := Ground.data }], guard := none }) (v := .int .i64 x16) rfl (by kernel_rfl) (by kernel_rfl) (by kernel_rfl) (fun _ _ _ h => h) (Or.inl ⟨by rfl, ?h20⟩) hHeld ?_
  case h20 => intro wv hSw; (try dsimp only at hSw); have hc : wv.cell? ⟨w.heap.size, 16, none⟩ = some (.int .i64 x16) := (by have h0 := hSw.1; simp only [World.cell?, h0]; rfl); go_simp; try with_reducible rfl
  try simp only [Act.put, List.setIfInBounds_toArray, List.set_cons_zero, List.set_cons_succ]
  refine wpAnyH_ready (rs := [2]) (by kernel_rfl) (by simp) ?_
  refine AllReadyH.cons (o := { dst := some 5, op := Op.call { callee := Callee.value (Operand.func 81), args := #[Operand.tmp 4], argTypes := #[48] }, type := 55, pos := "law.go:44", after := #[{ on := 1, ground := Ground.data }], guard := none }) rfl (fun KK hK => ?_) ?_
  · go_simp
    go_wp2_with (go_at_call 81; refine (rconv10 x0 x1 x2 x3 x4 x5 x6 x7 _).mono ?_; rintro e w8 ⟨rfl, hB8⟩)
    obtain ⟨q0, ⟨cs, q1z, q1⟩, q2⟩ := hHeld
    have q2' := Hid.out q2
    refine hK.out _ _ ⟨(hB8.block _ (Array.getElem?_eq_some_iff.1 q0).1).trans q0, ⟨cs, q1z, (hB8.block _ (Array.getElem?_eq_some_iff.1 q1).1).trans q1⟩, q2'.trans (hB8.mono q2'.size)⟩ (fun hHeld => ?_)
    clear hK q0 q1 q2 q1z
    refine wpAnyH_take (i := 21) (oi := { dst := some 24, op := Op.build 57 #[(0, Operand.tmp 5), (1, Operand.tmp 7), (2, Operand.tmp 9), (3, Operand.tmp 11), (4, Operand.tmp 13), (5, Operand.tmp 15), (6, Operand.tmp 17), (7, Operand.tmp 19), (8, Operand.tmp 21), (9, Operand.tmp 23)], type := 57, pos := "law.go:44", after := #[{ on := 2, ground := Ground.data }, { on := 4, ground := Ground.data }, { on := 6, ground := Ground.data }, { on := 8, ground := Ground.data }, { on := 10, ground := Ground.data }, { on := 12, ground := Ground.data }, { on := 14, ground := Ground.data }, { on := 16, ground := Ground.data }, { on := 18, ground := Ground.data }, { on := 20, ground := Ground.data }], guard := none }) (v := .agg #[.int .i64 x0, .int .i64 x1, .int .i64 x2, .int .i64 x3, .int .i64 x4, .int .i64 x5, .int .i64 x6, .int .i64 x7, .int .i64 x8, .int .i64 x9, .int .i64 x10, .int .i64 x11, .int .i64 x12, .int .i64 x13, .int .i64 x14, .int .i64 x15, .int .i64 x16]) rfl (by kernel_rfl) (by kernel_rfl) (by kernel_rfl) (fun _ _ _ h => h) (Or.inl ⟨by rfl, ?h21⟩) hHeld ?_
    case h21 => intro wv hSw; (try dsimp only at hSw); kernel_rfl
    try simp only [Act.put, List.setIfInBounds_toArray, List.set_cons_zero, List.set_cons_succ]
    refine wpAnyH_ready (rs := [22]) (by kernel_rfl) (by simp) ?_
    refine AllReadyH.cons (o := { dst := none, op := Op.store 57 (Operand.tmp 2) (Operand.tmp 24), type := 0, pos := "law.go:44", after := #[{ on := 21, ground := Ground.data }, { on := 2, ground := Ground.chain }, { on := 0, ground := Ground.phase }, { on := 1, ground := Ground.phase }, { on := 2, ground := Ground.phase }, { on := 3, ground := Ground.phase }, { on := 4, ground := Ground.phase }, { on := 5, ground := Ground.phase }, { on := 6, ground := Ground.phase }, { on := 7, ground := Ground.phase }, { on := 8, ground := Ground.phase }, { on := 9, ground := Ground.phase }, { on := 10, ground := Ground.phase }, { on := 11, ground := Ground.phase }, { on := 12, ground := Ground.phase }, { on := 13, ground := Ground.phase }, { on := 14, ground := Ground.phase }, { on := 15, ground := Ground.phase }, { on := 16, ground := Ground.phase }, { on := 17, ground := Ground.phase }, { on := 18, ground := Ground.phase }, { on := 19, ground := Ground.phase }, { on := 20, ground := Ground.phase }, { on := 21, ground := Ground.phase }], guard := none }) rfl (fun KK hK => ?_) ?_
    · rw [if_pos (by kernel_rfl)]
      obtain ⟨t0, ⟨ct, t1z, t1⟩, t2⟩ := hHeld
      refine wp_store_row 57 _ _ rfl (w.heap.size + 1) #[.int .i64 x0, .int .i64 x1, .int .i64 x2, .int .i64 x3, .int .i64 x4, .int .i64 x5, .int .i64 x6, .int .i64 x7, .int .i64 x8, .int .i64 x9, .int .i64 x10, .int .i64 x11, .int .i64 x12, .int .i64 x13, .int .i64 x14, .int .i64 x15, .int .i64 x16] (by kernel_rfl) (by kernel_rfl) 57 _ t1 (by kernel_rfl) (by rw [t1z]; rfl) (by kernel_rfl) ?_
      have hr := setRow_heap _ _ _ #[.int .i64 x0, .int .i64 x1, .int .i64 x2, .int .i64 x3, .int .i64 x4, .int .i64 x5, .int .i64 x6, .int .i64 x7, .int .i64 x8, .int .i64 x9, .int .i64 x10, .int .i64 x11, .int .i64 x12, .int .i64 x13, .int .i64 x14, .int .i64 x15, .int .i64 x16] _ _ t1
      refine hK.out _ _ ⟨(setRow_other _ _ _ _ (by omega)).trans t0, ⟨_, rfl, hr⟩, below_setRow t2.out (by omega) _⟩ (fun hHeld => ?_)
      clear hK
      refine wpAnyH_done (by kernel_rfl) ?_ _
      go_wp2
      refine bodyPost_ret (results_cell_row rfl _ _ (w.heap.size + 1) 57 _ (0, 0) _ rfl hr Tryz.underlying57 rfl (by kernel_rfl)) rfl ?_
      exact ⟨rfl, hHeld.2.2.out⟩
    exact AllReadyH.nil
  exact AllReadyH.nil
set_option maxRecDepth 100000 in
set_option maxHeartbeats 4000000 in
theorem rconv15 (x0 x1 x2 x3 x4 x5 x6 x7 x8 x9 x10 x11 x12 x13 x14 x15 x16 x17 x18 : Int) (w : World) : Calls Tryz.prog 22 #[.agg #[.int .i64 x0, .int .i64 x1, .int .i64 x2, .int .i64 x3, .int .i64 x4, .int .i64 x5, .int .i64 x6, .int .i64 x7, .int .i64 x8, .int .i64 x9, .int .i64 x10, .int .i64 x11, .int .i64 x12, .int .i64 x13, .int .i64 x14, .int .i64 x15, .int .i64 x16, .int .i64 x17, .int .i64 x18]] w fun e w' => e = .returned (.agg #[.int .i64 x0, .int .i64 x1, .int .i64 x2, .int .i64 x3, .int .i64 x4, .int .i64 x5, .int .i64 x6, .int .i64 x7, .int .i64 x8, .int .i64 x9, .int .i64 x10, .int .i64 x11, .int .i64 x12, .int .i64 x13, .int .i64 x14, .int .i64 x15, .int .i64 x16, .int .i64 x17, .int .i64 x18]) ∧ Below w.heap.size w w' := by
  have s0' : ((w.alloc (.cells #[.int .i64 x0, .int .i64 x1, .int .i64 x2, .int .i64 x3, .int .i64 x4, .int .i64 x5, .int .i64 x6, .int .i64 x7, .int .i64 x8, .int .i64 x9, .int .i64 x10, .int .i64 x11, .int .i64 x12, .int .i64 x13, .int .i64 x14, .int .i64 x15, .int .i64 x16, .int .i64 x17, .int .i64 x18] 52)).alloc (.cells #[.int .i64 0, .int .i64 0, .int .i64 0, .int .i64 0, .int .i64 0, .int .i64 0, .int .i64 0, .int .i64 0, .int .i64 0, .int .i64 0, .int .i64 0, .int .i64 0, .int .i64 0, .int .i64 0, .int .i64 0, .int .i64 0, .int .i64 0, .int .i64 0, .int .i64 0] 59)).heap[w.heap.size]? = some (.cells #[.int .i64 x0, .int .i64 x1, .int .i64 x2, .int .i64 x3, .int .i64 x4, .int .i64 x5, .int .i64 x6, .int .i64 x7, .int .i64 x8, .int .i64 x9, .int .i64 x10, .int .i64 x11, .int .i64 x12, .int .i64 x13, .int .i64 x14, .int .i64 x15, .int .i64 x16, .int .i64 x17, .int .i64 x18] 52 (0, 0)) := (Below.heap_alloc _ _ _ (by simp)).trans (heap_alloc_new w _)
  have s1' : ((w.alloc (.cells #[.int .i64 x0, .int .i64 x1, .int .i64 x2, .int .i64 x3, .int .i64 x4, .int .i64 x5, .int .i64 x6, .int .i64 x7, .int .i64 x8, .int .i64 x9, .int .i64 x10, .int .i64 x11, .int .i64 x12, .int .i64 x13, .int .i64 x14, .int .i64 x15, .int .i64 x16, .int .i64 x17, .int .i64 x18] 52)).alloc (.cells #[.int .i64 0, .int .i64 0, .int .i64 0, .int .i64 0, .int .i64 0, .int .i64 0, .int .i64 0, .int .i64 0, .int .i64 0, .int .i64 0, .int .i64 0, .int .i64 0, .int .i64 0, .int .i64 0, .int .i64 0, .int .i64 0, .int .i64 0, .int .i64 0, .int .i64 0] 59)).heap[w.heap.size + 1]? = some (.cells #[.int .i64 0, .int .i64 0, .int .i64 0, .int .i64 0, .int .i64 0, .int .i64 0, .int .i64 0, .int .i64 0, .int .i64 0, .int .i64 0, .int .i64 0, .int .i64 0, .int .i64 0, .int .i64 0, .int .i64 0, .int .i64 0, .int .i64 0, .int .i64 0, .int .i64 0] 59 (0, 0)) := heap_new2o w _ _
  have s2' : Hid (Below w.heap.size w ((w.alloc (.cells #[.int .i64 x0, .int .i64 x1, .int .i64 x2, .int .i64 x3, .int .i64 x4, .int .i64 x5, .int .i64 x6, .int .i64 x7, .int .i64 x8, .int .i64 x9, .int .i64 x10, .int .i64 x11, .int .i64 x12, .int .i64 x13, .int .i64 x14, .int .i64 x15, .int .i64 x16, .int .i64 x17, .int .i64 x18] 52)).alloc (.cells #[.int .i64 0, .int .i64 0, .int .i64 0, .int .i64 0, .int .i64 0, .int .i64 0, .int .i64 0, .int .i64 0, .int .i64 0, .int .i64 0, .int .i64 0, .int .i64 0, .int .i64 0, .int .i64 0, .int .i64 0, .int .i64 0, .int .i64 0, .int .i64 0, .int .i64 0] 59))) := ((Below.refl _ _).alloc (Nat.le_refl _) _).alloc (by simp) _
  have S0 : Hid _ := s0'
  have S1 : Hid _ := s1'
  clear s0' s1'
  go_enter Tryz.func22, Tryz.ntmps22
  go_upto_region 1 with fail
  have s0 := S0.out
  have s1 := S1.out
  have s1z : (#[.int .i64 0, .int .i64 0, .int .i64 0, .int .i64 0, .int .i64 0, .int .i64 0, .int .i64 0, .int .i64 0, .int .i64 0, .int .i64 0, .int .i64 0, .int .i64 0, .int .i64 0, .int .i64 0, .int .i64 0, .int .i64 0, .int .i64 0, .int .i64 0, .int .i64 0] : Array Value).size = 19 := rfl
  have s2 : Hid (Below w.heap.size w (World.drew ((w.alloc (.cells #[.int .i64 x0, .int .i64 x1, .int .i64 x2, .int .i64 x3, .int .i64 x4, .int .i64 x5, .int .i64 x6, .int .i64 x7, .int .i64 x8, .int .i64 x9, .int .i64 x10, .int .i64 x11, .int .i64 x12, .int .i64 x13, .int .i64 x14, .int .i64 x15, .int .i64 x16, .int .i64 x17, .int .i64 x18] 52)).alloc (.cells #[.int .i64 0, .int .i64 0, .int .i64 0, .int .i64 0, .int .i64 0, .int .i64 0, .int .i64 0, .int .i64 0, .int .i64 0, .int .i64 0, .int .i64 0, .int .i64 0, .int .i64 0, .int .i64 0, .int .i64 0, .int .i64 0, .int .i64 0, .int .i64 0, .int .i64 0] 59)))) := s2'.out.drew
  refine wp_region_held_drew (S := fun V => V.heap[w.heap.size]? = some (.cells #[.int .i64 x0, .int .i64 x1, .int .i64 x2, .int .i64 x3, .int .i64 x4, .int .i64 x5, .int .i64 x6, .int .i64 x7, .int .i64 x8, .int .i64 x9, .int .i64 x10, .int .i64 x11, .int .i64 x12, .int .i64 x13, .int .i64 x14, .int .i64 x15, .int .i64 x16, .int .i64 x17, .int .i64 x18] 52 (0, 0)) ∧ (∃ cs : Array Value, cs.size = 19 ∧ V.heap[w.heap.size + 1]? = some (.cells cs 59 (0, 0))) ∧ Hid (Below w.heap.size w V)) (by kernel_rfl) ⟨s0, ⟨_, s1z, s1⟩, s2⟩ (fun hHeld => ?_)
  refine wpAnyH_take (i := 0) (oi := { dst := some 3, op := Op.fieldAddr 52 (Operand.tmp 1) 0, type := 0, pos := "law.go:36", after := #[], guard := none }) (v := .pointer (some ⟨w.heap.size, 0, none⟩)) rfl (by kernel_rfl) (by kernel_rfl) (by kernel_rfl) (fun _ _ _ h => h) (Or.inl ⟨by rfl, ?h0⟩) hHeld ?_
  case h0 => intro wv hSw; (try dsimp only at hSw); kernel_rfl
  try simp only [Act.put, List.setIfInBounds_toArray, List.set_cons_zero, List.set_cons_succ]
  refine wpAnyH_take (i := 1) (oi := { dst := some 4, op := Op.load 3 (Operand.tmp 3), type := 3, pos := "law.go:36", after := #[{ on := 0, ground := Ground.data }], guard := none }) (v := .int .i64 x0) rfl (by kernel_rfl) (by kernel_rfl) (by kernel_rfl) (fun _ _ _ h => h) (Or.inl ⟨by rfl, ?h1⟩) hHeld ?_
  case h1 => intro wv hSw; (try dsimp only at hSw); have hc : wv.cell? ⟨w.heap.size, 0, none⟩ = some (.int .i64 x0) := (by have h0 := hSw.1; simp only [World.cell?, h0]; rfl); go_simp; try with_reducible rfl
  try simp only [Act.put, List.setIfInBounds_toArray, List.set_cons_zero, List.set_cons_succ]
  refine wpAnyH_take (i := 2) (oi := { dst := some 5, op := Op.fieldAddr 52 (Operand.tmp 1) 1, type := 0, pos := "law.go:36", after := #[], guard := none }) (v := .pointer (some ⟨w.heap.size, 1, none⟩)) rfl (by kernel_rfl) (by kernel_rfl) (by kernel_rfl) (fun _ _ _ h => h) (Or.inl ⟨by rfl, ?h2⟩) hHeld ?_
  case h2 => intro wv hSw; (try dsimp only at hSw); kernel_rfl
  try simp only [Act.put, List.setIfInBounds_toArray, List.set_cons_zero, List.set_cons_succ]
  refine wpAnyH_take (i := 3) (oi := { dst := some 6, op := Op.load 3 (Operand.tmp 5), type := 3, pos := "law.go:36", after := #[{ on := 2, ground := Ground.data }], guard := none }) (v := .int .i64 x1) rfl (by kernel_rfl) (by kernel_rfl) (by kernel_rfl) (fun _ _ _ h => h) (Or.inl ⟨by rfl, ?h3⟩) hHeld ?_
  case h3 => intro wv hSw; (try dsimp only at hSw); have hc : wv.cell? ⟨w.heap.size, 1, none⟩ = some (.int .i64 x1) := (by have h0 := hSw.1; simp only [World.cell?, h0]; rfl); go_simp; try with_reducible rfl
  try simp only [Act.put, List.setIfInBounds_toArray, List.set_cons_zero, List.set_cons_succ]
  refine wpAnyH_take (i := 4) (oi := { dst := some 7, op := Op.fieldAddr 52 (Operand.tmp 1) 2, type := 0, pos := "law.go:36", after := #[], guard := none }) (v := .pointer (some ⟨w.heap.size, 2, none⟩)) rfl (by kernel_rfl) (by kernel_rfl) (by kernel_rfl) (fun _ _ _ h => h) (Or.inl ⟨by rfl, ?h4⟩) hHeld ?_
  case h4 => intro wv hSw; (try dsimp only at hSw); kernel_rfl
  try simp only [Act.put, List.setIfInBounds_toArray, List.set_cons_zero, List.set_cons_succ]
  refine wpAnyH_take (i := 5) (oi := { dst := some 8, op := Op.load 50 (Operand.tmp 7), type := 50, pos := "law.go:36", after := #[{ on := 4, ground := Ground.data }], guard := none }) (v := .agg #[.int .i64 x2, .int .i64 x3, .int .i64 x4, .int .i64 x5, .int .i64 x6, .int .i64 x7, .int .i64 x8, .int .i64 x9, .int .i64 x10, .int .i64 x11, .int .i64 x12, .int .i64 x13, .int .i64 x14, .int .i64 x15, .int .i64 x16, .int .i64 x17, .int .i64 x18]) rfl (by kernel_rfl) (by kernel_rfl) (by kernel_rfl) (fun _ _ _ h => h) (Or.inl ⟨by rfl, ?h5⟩) hHeld ?_
  case h5 => intro wv hSw; (try dsimp only at hSw); exact load_midE rfl (by kernel_rfl) (run_loadVar_mid (P := Tryz.prog) _ w.heap.size 2 50 [.int .i64 x2, .int .i64 x3, .int .i64 x4, .int .i64 x5, .int .i64 x6, .int .i64 x7, .int .i64 x8, .int .i64 x9, .int .i64 x10, .int .i64 x11, .int .i64 x12, .int .i64 x13, .int .i64 x14, .int .i64 x15, .int .i64 x16, .int .i64 x17, .int .i64 x18] _ (range_of hSw.1 rfl) Tryz.underlying50 rfl (by kernel_rfl))
  try simp only [Act.put, List.setIfInBounds_toArray, List.set_cons_zero, List.set_cons_succ]
  refine wpAnyH_ready (rs := [6]) (by kernel_rfl) (by simp) ?_
  refine AllReadyH.cons (o := { dst := some 9, op := Op.call { callee := Callee.value (Operand.func 57), args := #[Operand.tmp 8], argTypes := #[50] }, type := 57, pos := "law.go:36", after := #[{ on := 5, ground := Ground.data }], guard := none }) rfl (fun KK hK => ?_) ?_
  · go_simp
    go_wp2_with (go_at_call 57; refine (rconv12 x2 x3 x4 x5 x6 x7 x8 x9 x10 x11 x12 x13 x14 x15 x16 x17 x18 _).mono ?_; rintro e w8 ⟨rfl, hB8⟩)
    obtain ⟨q0, ⟨cs, q1z, q1⟩, q2⟩ := hHeld
    have q2' := Hid.out q2
    refine hK.out _ _ ⟨(hB8.block _ (Array.getElem?_eq_some_iff.1 q0).1).trans q0, ⟨cs, q1z, (hB8.block _ (Array.getElem?_eq_some_iff.1 q1).1).trans q1⟩, q2'.trans (hB8.mono q2'.size)⟩ (fun hHeld => ?_)
    clear hK q0 q1 q2 q1z
    refine wpAnyH_take (i := 7) (oi := { dst := some 10, op := Op.build 59 #[(0, Operand.tmp 4), (1, Operand.tmp 6), (2, Operand.tmp 9)], type := 59, pos := "law.go:36", after := #[{ on := 1, ground := Ground.data }, { on := 3, ground := Ground.data }, { on := 6, ground := Ground.data }], guard := none }) (v := .agg #[.int .i64 x0, .int .i64 x1, .int .i64 x2, .int .i64 x3, .int .i64 x4, .int .i64 x5, .int .i64 x6, .int .i64 x7, .int .i64 x8, .int .i64 x9, .int .i64 x10, .int .i64 x11, .int .i64 x12, .int .i64 x13, .int .i64 x14, .int .i64 x15, .int .i64 x16, .int .i64 x17, .int .i64 x18]) rfl (by kernel_rfl) (by kernel_rfl) (by kernel_rfl) (fun _ _ _ h => h) (Or.inl ⟨by rfl, ?h7⟩) hHeld ?_
    case h7 => intro wv hSw; (try dsimp only at hSw); kernel_rfl
    try simp only [Act.put, List.setIfInBounds_toArray, List.set_cons_zero, List.set_cons_succ]
    refine wpAnyH_ready (rs := [8]) (by kernel_rfl) (by simp) ?_
    refine AllReadyH.cons (o := { dst := none, op := Op.store 59 (Operand.tmp 2) (Operand.tmp 10), type := 0, pos := "law.go:36", after := #[{ on := 7, ground := Ground.data }, { on := 6, ground := Ground.chain }, { on := 0, ground := Ground.phase }, { on := 1, ground := Ground.phase }, { on := 2, ground := Ground.phase }, { on := 3, ground := Ground.phase }, { on := 4, ground := Ground.phase }, { on := 5, ground := Ground.phase }, { on := 6, ground := Ground.phase }, { on := 7, ground := Ground.phase }], guard := none }) rfl (fun KK hK => ?_) ?_
    · rw [if_pos (by kernel_rfl)]
      obtain ⟨t0, ⟨ct, t1z, t1⟩, t2⟩ := hHeld
      refine wp_store_row 59 _ _ rfl (w.heap.size + 1) #[.int .i64 x0, .int .i64 x1, .int .i64 x2, .int .i64 x3, .int .i64 x4, .int .i64 x5, .int .i64 x6, .int .i64 x7, .int .i64 x8, .int .i64 x9, .int .i64 x10, .int .i64 x11, .int .i64 x12, .int .i64 x13, .int .i64 x14, .int .i64 x15, .int .i64 x16, .int .i64 x17, .int .i64 x18] (by kernel_rfl) (by kernel_rfl) 59 _ t1 (by kernel_rfl) (by rw [t1z]; rfl) (by kernel_rfl) ?_
      have hr := setRow_heap _ _ _ #[.int .i64 x0, .int .i64 x1, .int .i64 x2, .int .i64 x3, .int .i64 x4, .int .i64 x5, .int .i64 x6, .int .i64 x7, .int .i64 x8, .int .i64 x9, .int .i64 x10, .int .i64 x11, .int .i64 x12, .int .i64 x13, .int .i64 x14, .int .i64 x15, .int .i64 x16, .int .i64 x17, .int .i64 x18] _ _ t1
      refine hK.out _ _ ⟨(setRow_other _ _ _ _ (by omega)).trans t0, ⟨_, rfl, hr⟩, below_setRow t2.out (by omega) _⟩ (fun hHeld => ?_)
      clear hK
      refine wpAnyH_done (by kernel_rfl) ?_ _
      go_wp2
      refine bodyPost_ret (results_cell_row rfl _ _ (w.heap.size + 1) 59 _ (0, 0) _ rfl hr Tryz.underlying59 rfl (by kernel_rfl)) rfl ?_
      exact ⟨rfl, hHeld.2.2.out⟩
    exact AllReadyH.nil
  exact AllReadyH.nil
end Go.Proofs.YtbckogojnjmjcaaGreatDoor
