/-
  The options of any line, the line of any options: the walk.
-/
import Derived.Test.YtbckogojnjmjcaaGreatDoorJqr
import Derived.Test.YtbckogojnjmjcaaGreatDoorQ9
namespace Go.Proofs.YtbckogojnjmjcaaGreatDoor
open Go.RowKit Go.Shelf

theorem eql_agg {o : Oper} {x y : Operand} {a : Act} {w : World} {T ty : TypeId} {xs ys : Array Value} {b : Bool} (ho : o.op = .binOp .eql T x y ty) (hx : a.eval x = .agg xs) (hy : a.eval y = .agg ys) (hg : Tryz.prog.eqGuardType Tryz.prog.depth T = false) (h : (Op.equalIn 10000 T (.agg xs) (.agg ys)).run Tryz.prog w = .ok b w) : (execOp a.eval o).run Tryz.prog w = .ok (.value (.bool b)) w := by
  unfold execOp
  have h' : (Op.equal T (.agg xs) (.agg ys)).run Tryz.prog w = .ok b w := h
  simp only [ho, hx, hy, eqGuard, binOp, Sem.run_bind, Sem.run_pure]
  simp [go_sem, hg, h']
theorem hg0R : Tryz.prog.eqGuardType Tryz.prog.depth 59 = false := by kernel_rfl
theorem rconv15_any (l : List Int) (hl : l.length = 19) (w : World) : Calls Tryz.prog 22 #[.agg (intsV l)] w fun e w' => e = .returned (.agg (intsV l)) ∧ Below w.heap.size w w' := by
  match l, hl with
  | [x0, x1, x2, x3, x4, x5, x6, x7, x8, x9, x10, x11, x12, x13, x14, x15, x16, x17, x18], _ => exact rconv15 x0 x1 x2 x3 x4 x5 x6 x7 x8 x9 x10 x11 x12 x13 x14 x15 x16 x17 x18 w
theorem eq_optsR_any (l : List Int) (hl : l.length = 19) (w : World) : (Op.equalIn 10000 59 (.agg (intsV l)) (.agg (intsV l))).run Tryz.prog w = .ok true w := by
  match l, hl with
  | [x0, x1, x2, x3, x4, x5, x6, x7, x8, x9, x10, x11, x12, x13, x14, x15, x16, x17, x18], _ => exact eq_optsR x0 x1 x2 x3 x4 x5 x6 x7 x8 x9 x10 x11 x12 x13 x14 x15 x16 x17 x18 w
theorem PoE.one (r : Except Nat (List Int)) : ∃ (ro : List Int) (er : Int), PoE r = .returned (.tuple #[.agg (intsV ro), .int .i64 er]) ∧ ro.length = 19 := by
  cases r with
  | ok ns => exact ⟨optsOf ns, 0, rfl, optsOf_len _⟩
  | error k => exact ⟨zeros, k, rfl, rfl⟩
/-- The three options that the law holds. -/
structure TS (w : World) (xb yb : Nat) (iv rv : Array Value) (V : World) : Prop where
  a : V.heap[w.heap.size]? = some (.cells iv 52 (0, 0))
  x : V.heap[xb]? = some (.cells rv 52 (0, 0))
  y : V.heap[yb]? = some (.cells rv 59 (0, 0))
  bel : Below w.heap.size w V
theorem TS.below {w : World} {xb yb : Nat} {iv rv : Array Value} {V V' : World} (h : TS w xb yb iv rv V) (hB : Below V.heap.size V V') : TS w xb yb iv rv V' :=
  ⟨(hB.block _ (Array.getElem?_eq_some_iff.1 h.a).1).trans h.a, (hB.block _ (Array.getElem?_eq_some_iff.1 h.x).1).trans h.x, (hB.block _ (Array.getElem?_eq_some_iff.1 h.y).1).trans h.y, h.bel.trans (hB.mono h.bel.size)⟩
set_option maxRecDepth 100000 in
set_option maxHeartbeats 8000000 in
theorem opts_walk (w : World) (hv : Vars w) (line : Bs) (hll : line.length ≤ maxLen) (l : List Int) (hl : OpIn l) : Calls Tryz.prog 5 #[str line, .agg (intsV l)] w fun e w' => e = .returned (.bool true) ∧ Below w.heap.size w w' := by
  have HV : Hid (∀ W, Below w.heap.size w W → Vars W) := fun W h => hv.below h
  have HN := num_any
  have HSZ : Hid ((intsV l).size = 19) := (intsV_size l).trans hl.len
  have HB0 : Hid (Below w.heap.size w (w.alloc (.cells (intsV l) 52))) := (Below.refl _ _).alloc (Nat.le_refl _) _
  have HX0 : Hid ((w.alloc (.cells (intsV l) 52)).heap[w.heap.size]? = some (.cells (intsV l) 52 (0, 0))) := heap_alloc_new w _
  have HFI := first_any (w.alloc (.cells (intsV l) 52)) (HV.out _ HB0.out)
  have HFO : Hid (∀ W, Vars W → Calls Tryz.prog 23 #[.agg (intsV l)] W fun e w' => e = .returned (.string ⟨(optsL (num17 l)).toArray⟩) ∧ Below W.heap.size W w') := fun W h => formatOpts_any l hl W h
  have HDF : Hid (∀ W, Vars W → Calls Tryz.prog 24 #[.agg (intsV l)] W fun e w' => e = .returned (.string ⟨(optsL (num17 l)).toArray⟩) ∧ Below W.heap.size W w') := fun W h => rformatOpts_any l hl W h
  have HCI : Hid (∀ W, Calls Tryz.prog 22 #[.agg (intsV l)] W fun e w' => e = .returned (.agg (intsV l)) ∧ Below W.heap.size W w') := fun W => rconv15_any l hl.len W
  generalize optsL (num17 l) = st at *
  generalize intsV l = iv at *
  unfold maxLen at hll
  clear hl hv
  unfold str
  go_enter Tryz.func5, Tryz.ntmps5
  go_wp2_with fail
  refine HFI.mono ?_
  rintro e w1 ⟨rfl, hB1⟩
  have HX1 : Hid (w1.heap[w.heap.size]? = some (.cells iv 52 (0, 0))) := (hB1.block _ (by simp)).trans HX0.out
  have HB1 : Hid (Below w.heap.size w w1) := HB0.out.trans (hB1.mono (by simp))
  have hz1 : w.heap.size < w1.heap.size := (Array.getElem?_eq_some_iff.1 HX1.out).1
  clear hB1 HFI HX0 HB0
  by_cases h20 : 20000 < line.length
  · go_wp2
    go_ret
    exact ⟨rfl, HB1.out⟩
  have HLN : Hid (line.length ≤ 1000000) := by show _ ≤ _; omega
  have HPO := parseOpts_any line HLN.out w1 (HV.out _ HB1.out)
  unfold str at HPO
  go_wp2_with fail
  refine HPO.mono ?_
  rintro e w2 ⟨⟨r, hr, rfl⟩, hB2⟩
  obtain ⟨ro, er, hPE, hro⟩ := PoE.one r
  have HPE : Hid (∀ q, OpR line q → PoE q = .returned (.tuple #[.agg (intsV ro), .int .i64 er])) := fun q hq => by rw [hq.uniq hr]; exact hPE
  rw [hPE]
  have HRZ : Hid ((intsV ro).size = 19) := (intsV_size ro).trans hro
  have HON : Hid ((intsV ro).all (·.oneCell') = true) := intsV_one _
  have HCR : Hid (∀ W, Calls Tryz.prog 22 #[.agg (intsV ro)] W fun e w' => e = .returned (.agg (intsV ro)) ∧ Below W.heap.size W w') := fun W => rconv15_any ro hro W
  have HEQ : Hid (∀ W, (Op.equalIn 10000 59 (.agg (intsV ro)) (.agg (intsV ro))).run Tryz.prog W = .ok true W) := fun W => eq_optsR_any ro hro W
  have HX2 : Hid (w2.heap[w.heap.size]? = some (.cells iv 52 (0, 0))) := (hB2.block _ hz1).trans HX1.out
  have HB2 : Hid (Below w.heap.size w w2) := HB1.out.trans (hB2.mono HB1.out.size)
  have hz2 : w.heap.size < w2.heap.size := (Array.getElem?_eq_some_iff.1 HX2.out).1
  clear hPE hro hr hB2 HPO HX1 HB1 hz1 h20
  generalize intsV ro = rv at *
  clear ro
  rename ∀ (a : Act) (w : World), wpList Tryz.prog _ _ _ a w → _ => aK
  refine aK _ _ ?_
  clear aK
  refine Go.Great.wpList_readTo rfl (some 19) rfl (.tuple #[.agg rv, .int .i64 er]) (by kernel_rfl) ?_
  refine Go.Great.wpList_readTo rfl (some 22) rfl (.agg rv) (by kernel_rfl) ?_
  refine Go.Great.wpList_readTo rfl (some 23) rfl (.int .i64 er) (by kernel_rfl) ?_
  refine Go.Great.wpList_allocTo rfl (some 6) rfl (.pointer (some ⟨w2.heap.size, 0, none⟩)) (.cells #[.int .i64 0, .int .i64 0, .int .i64 0, .int .i64 0, .int .i64 0, .int .i64 0, .int .i64 0, .int .i64 0, .int .i64 0, .int .i64 0, .int .i64 0, .int .i64 0, .int .i64 0, .int .i64 0, .int .i64 0, .int .i64 0, .int .i64 0, .int .i64 0, .int .i64 0] 52) (by kernel_rfl) ?_
  refine wpList_store_rowTo rfl 52 _ _ rfl rfl w2.heap.size rv (by kernel_rfl) (by kernel_rfl) 52 _ (heap_alloc_new w2 _) (by rw [HRZ.out]; kernel_rfl) (by rw [HRZ.out]; rfl) HON.out ?_
  generalize hW3 : World.setRow _ _ _ = W3
  have HA3 : Hid (Below w2.heap.size w2 W3) := by show Below _ _ _; rw [← hW3]; exact below_setRow ((Below.refl _ _).alloc (Nat.le_refl _) _) (Nat.le_refl _) _
  have HR3 : Hid (W3.heap[w2.heap.size]? = some (.cells rv 52 (0, 0))) := by show _ = _; rw [← hW3]; exact setRow_heap _ _ _ _ _ _ (heap_alloc_new w2 _)
  have HX3 : Hid (W3.heap[w.heap.size]? = some (.cells iv 52 (0, 0))) := (HA3.out.block _ hz2).trans HX2.out
  have HB3 : Hid (Below w.heap.size w W3) := HB2.out.trans (HA3.out.mono (by omega))
  have hz3 : w2.heap.size < W3.heap.size := (Array.getElem?_eq_some_iff.1 HR3.out).1
  clear hW3 HA3 HX2 HB2
  have HRP := rparseOpts_any line HLN.out W3
  go_wp2_with fail
  refine HRP.mono ?_
  rintro e w4 ⟨⟨q, hq, rfl⟩, hB4⟩
  rw [HPE.out q hq]
  have HR4 : Hid (w4.heap[w2.heap.size]? = some (.cells rv 52 (0, 0))) := (hB4.block _ hz3).trans HR3.out
  have HX4 : Hid (w4.heap[w.heap.size]? = some (.cells iv 52 (0, 0))) := (hB4.block _ (by omega)).trans HX3.out
  have HB4 : Hid (Below w.heap.size w w4) := HB3.out.trans (hB4.mono HB3.out.size)
  have hz4 : w2.heap.size < w4.heap.size := (Array.getElem?_eq_some_iff.1 HR4.out).1
  clear hq hB4 HRP HPE HR3 HX3 HB3 hz3
  rename ∀ (a : Act) (w : World), wpList Tryz.prog _ _ _ a w → _ => aK
  refine aK _ _ ?_
  clear aK
  refine Go.Great.wpList_readTo rfl (some 24) rfl (.tuple #[.agg rv, .int .i64 er]) (by kernel_rfl) ?_
  refine Go.Great.wpList_readTo rfl (some 27) rfl (.agg rv) (by kernel_rfl) ?_
  refine Go.Great.wpList_readTo rfl (some 28) rfl (.int .i64 er) (by kernel_rfl) ?_
  refine Go.Great.wpList_allocTo rfl (some 8) rfl (.pointer (some ⟨w4.heap.size, 0, none⟩)) (.cells #[.int .i64 0, .int .i64 0, .int .i64 0, .int .i64 0, .int .i64 0, .int .i64 0, .int .i64 0, .int .i64 0, .int .i64 0, .int .i64 0, .int .i64 0, .int .i64 0, .int .i64 0, .int .i64 0, .int .i64 0, .int .i64 0, .int .i64 0, .int .i64 0, .int .i64 0] 59) (by kernel_rfl) ?_
  refine wpList_store_rowTo rfl 59 _ _ rfl rfl w4.heap.size rv (by kernel_rfl) (by kernel_rfl) 59 _ (heap_alloc_new w4 _) (by rw [HRZ.out]; kernel_rfl) (by rw [HRZ.out]; rfl) HON.out ?_
  generalize hW5 : World.setRow _ _ _ = W5
  have HA5 : Hid (Below w4.heap.size w4 W5) := by show Below _ _ _; rw [← hW5]; exact below_setRow ((Below.refl _ _).alloc (Nat.le_refl _) _) (Nat.le_refl _) _
  have HS5 : Hid (TS w w2.heap.size w4.heap.size iv rv W5) :=
    ⟨(HA5.out.block _ (by omega)).trans HX4.out, (HA5.out.block _ hz4).trans HR4.out, by rw [← hW5]; exact setRow_heap _ _ _ _ _ _ (heap_alloc_new w4 _), HB4.out.trans (HA5.out.mono (by omega))⟩
  clear hW5 HA5 HX4 HR4 HB4
  go_upto_region 6 with fail
  refine wp_region_held_drew (S := TS w w2.heap.size w4.heap.size iv rv) (by kernel_rfl) (HS5.out.below (drewB W5 1)) (fun hHeld => ?_)
  clear HS5
  refine wpAnyH_take (i := 0) (oi := { dst := some 29, op := Op.load 52 (Operand.tmp 6), type := 52, pos := "law.go:63", after := #[], guard := none }) (v := .agg rv) rfl (by kernel_rfl) (by kernel_rfl) (by kernel_rfl) (fun _ _ _ h => h) (Or.inl ⟨by rfl, ?h0_13⟩) hHeld ?_
  case h0_13 => intro wv hSw; (try dsimp only at hSw); exact load_row rfl (by kernel_rfl) (run_loadVar_row (P := Tryz.prog) _ w2.heap.size 52 52 _ (0, 0) _ hSw.x Tryz.underlying52 rfl (by rw [HRZ.out]; kernel_rfl))
  try simp only [Act.put, List.setIfInBounds_toArray, List.set_cons_zero, List.set_cons_succ]
  refine wpAnyH_take (i := 2) (oi := { dst := some 31, op := Op.load 59 (Operand.tmp 8), type := 59, pos := "law.go:63", after := #[], guard := none }) (v := .agg rv) rfl (by kernel_rfl) (by kernel_rfl) (by kernel_rfl) (fun _ _ _ h => h) (Or.inl ⟨by rfl, ?h2_14⟩) hHeld ?_
  case h2_14 => intro wv hSw; (try dsimp only at hSw); exact load_row rfl (by kernel_rfl) (run_loadVar_row (P := Tryz.prog) _ w4.heap.size 59 59 _ (0, 0) _ hSw.y Tryz.underlying59 rfl (by rw [HRZ.out]; kernel_rfl))
  try simp only [Act.put, List.setIfInBounds_toArray, List.set_cons_zero, List.set_cons_succ]
  refine wpAnyH_ready (rs := [1]) (by kernel_rfl) (by simp) ?_
  refine AllReadyH.cons (o := { dst := some 30, op := Op.call { callee := Callee.value (Operand.func 22), args := #[Operand.tmp 29], argTypes := #[52] }, type := 59, pos := "law.go:63", after := #[{ on := 0, ground := Ground.data }], guard := none }) rfl (fun KK hK => ?_) ?_
  · go_simp
    go_wp2_with (go_at_call 22; refine (HCR.out _).mono ?_; rintro e w8 ⟨rfl, hB8⟩)
    have hT8 := hHeld.below hB8
    clear hHeld hB8
    refine hK.out _ _ hT8 (fun hHeld => ?_)
    clear hK hT8
    refine wpAnyH_take (i := 3) (oi := { dst := some 32, op := Op.binOp BinOp.eql 59 (Operand.tmp 30) (Operand.tmp 31) 59, type := 4, pos := "law.go:63", after := #[{ on := 1, ground := Ground.data }, { on := 2, ground := Ground.data }], guard := none }) (v := .bool true) rfl (by kernel_rfl) (by kernel_rfl) (by kernel_rfl) (fun _ _ _ h => h) (Or.inl ⟨by rfl, ?h3_9⟩) hHeld ?_
    case h3_9 => intro wv hSw; (try dsimp only at hSw); exact eql_agg rfl (by kernel_rfl) (by kernel_rfl) hg0R (HEQ.out _)
    try simp only [Act.put, List.setIfInBounds_toArray, List.set_cons_zero, List.set_cons_succ]
    refine wpAnyH_take (i := 4) (oi := { dst := some 33, op := Op.move (Operand.tmp 32), type := 4, pos := "law.go:63", after := #[{ on := 3, ground := Ground.data }, { on := 1, ground := Ground.chain }], guard := none }) (v := .bool true) rfl (by kernel_rfl) (by kernel_rfl) (by kernel_rfl) (fun _ _ _ h => h) (Or.inl ⟨by rfl, ?h4_10⟩) hHeld ?_
    case h4_10 => intro wv hSw; (try dsimp only at hSw); kernel_rfl
    try simp only [Act.put, List.setIfInBounds_toArray, List.set_cons_zero, List.set_cons_succ]
    refine wpAnyH_take (i := 5) (oi := { dst := some 34, op := Op.move (Operand.tmp 7), type := 24, pos := "law.go:63", after := #[{ on := 4, ground := Ground.guard }], guard := some (4, true) }) (v := .int .i64 er) rfl (by kernel_rfl) (by kernel_rfl) (by kernel_rfl) (fun _ _ _ h => h) (Or.inl ⟨by rfl, ?h5_11⟩) hHeld ?_
    case h5_11 => intro wv hSw; (try dsimp only at hSw); kernel_rfl
    try simp only [Act.put, List.setIfInBounds_toArray, List.set_cons_zero, List.set_cons_succ]
    refine wpAnyH_take (i := 7) (oi := { dst := some 36, op := Op.move (Operand.tmp 9), type := 3, pos := "law.go:63", after := #[{ on := 4, ground := Ground.guard }], guard := some (4, true) }) (v := .int .i64 er) rfl (by kernel_rfl) (by kernel_rfl) (by kernel_rfl) (fun _ _ _ h => h) (Or.inl ⟨by rfl, ?h7_12⟩) hHeld ?_
    case h7_12 => intro wv hSw; (try dsimp only at hSw); kernel_rfl
    try simp only [Act.put, List.setIfInBounds_toArray, List.set_cons_zero, List.set_cons_succ]
    refine wpAnyH_ready (rs := [6]) (by kernel_rfl) (by simp) ?_
    refine AllReadyH.cons (o := { dst := some 35, op := Op.call { callee := Callee.value (Operand.func 11), args := #[Operand.tmp 34], argTypes := #[24] }, type := 3, pos := "law.go:63", after := #[{ on := 5, ground := Ground.data }, { on := 4, ground := Ground.chain }, { on := 4, ground := Ground.guard }], guard := some (4, true) }) rfl (fun KK hK => ?_) ?_
    · go_simp
      go_wp2_with (go_at_call 11; refine (HN _ _).mono ?_; rintro e w8 ⟨rfl, hw⟩; subst w8)
      refine hK.out _ _ hHeld (fun hHeld => ?_)
      clear hK
      refine wpAnyH_take (i := 8) (oi := { dst := some 37, op := Op.binOp BinOp.eql 3 (Operand.tmp 35) (Operand.tmp 36) 3, type := 4, pos := "law.go:63", after := #[{ on := 6, ground := Ground.data }, { on := 7, ground := Ground.data }, { on := 4, ground := Ground.guard }], guard := some (4, true) }) (v := .bool true) rfl (by kernel_rfl) (by kernel_rfl) (by kernel_rfl) (fun _ _ _ h => h) (Or.inl ⟨by rfl, ?h8_4⟩) hHeld ?_
      case h8_4 => intro wv hSw; (try dsimp only at hSw); go_simp; try with_reducible rfl
      try simp only [Act.put, List.setIfInBounds_toArray, List.set_cons_zero, List.set_cons_succ]
      refine wpAnyH_take (i := 9) (oi := { dst := some 38, op := Op.pick (Operand.tmp 33) (Operand.tmp 37) (Operand.const (Value.bool false)), type := 4, pos := "law.go:63", after := #[{ on := 4, ground := Ground.data }, { on := 8, ground := Ground.data }], guard := none }) (v := .bool true) rfl (by kernel_rfl) (by kernel_rfl) (by kernel_rfl) (fun _ _ _ h => h) (Or.inl ⟨by rfl, ?h9_5⟩) hHeld ?_
      case h9_5 => intro wv hSw; (try dsimp only at hSw); kernel_rfl
      try simp only [Act.put, List.setIfInBounds_toArray, List.set_cons_zero, List.set_cons_succ]
      refine wpAnyH_take (i := 10) (oi := { dst := some 39, op := Op.move (Operand.tmp 38), type := 4, pos := "law.go:63", after := #[{ on := 9, ground := Ground.data }, { on := 6, ground := Ground.chain }], guard := none }) (v := .bool true) rfl (by kernel_rfl) (by kernel_rfl) (by kernel_rfl) (fun _ _ _ h => h) (Or.inl ⟨by rfl, ?h10_6⟩) hHeld ?_
      case h10_6 => intro wv hSw; (try dsimp only at hSw); kernel_rfl
      try simp only [Act.put, List.setIfInBounds_toArray, List.set_cons_zero, List.set_cons_succ]
      refine wpAnyH_take (i := 11) (oi := { dst := some 40, op := Op.load 52 (Operand.tmp 3), type := 52, pos := "law.go:63", after := #[{ on := 10, ground := Ground.guard }], guard := some (10, true) }) (v := .agg iv) rfl (by kernel_rfl) (by kernel_rfl) (by kernel_rfl) (fun _ _ _ h => h) (Or.inl ⟨by rfl, ?h11_7⟩) hHeld ?_
      case h11_7 => intro wv hSw; (try dsimp only at hSw); exact load_row rfl (by kernel_rfl) (run_loadVar_row (P := Tryz.prog) _ w.heap.size 52 52 _ (0, 0) _ hSw.a Tryz.underlying52 rfl (by rw [HSZ.out]; kernel_rfl))
      try simp only [Act.put, List.setIfInBounds_toArray, List.set_cons_zero, List.set_cons_succ]
      refine wpAnyH_take (i := 13) (oi := { dst := some 42, op := Op.load 52 (Operand.tmp 3), type := 52, pos := "law.go:63", after := #[{ on := 10, ground := Ground.guard }], guard := some (10, true) }) (v := .agg iv) rfl (by kernel_rfl) (by kernel_rfl) (by kernel_rfl) (fun _ _ _ h => h) (Or.inl ⟨by rfl, ?h13_8⟩) hHeld ?_
      case h13_8 => intro wv hSw; (try dsimp only at hSw); exact load_row rfl (by kernel_rfl) (run_loadVar_row (P := Tryz.prog) _ w.heap.size 52 52 _ (0, 0) _ hSw.a Tryz.underlying52 rfl (by rw [HSZ.out]; kernel_rfl))
      try simp only [Act.put, List.setIfInBounds_toArray, List.set_cons_zero, List.set_cons_succ]
      refine wpAnyH_ready (rs := [12]) (by kernel_rfl) (by simp) ?_
      refine AllReadyH.cons (o := { dst := some 41, op := Op.call { callee := Callee.value (Operand.func 23), args := #[Operand.tmp 40], argTypes := #[52] }, type := 9, pos := "law.go:63", after := #[{ on := 11, ground := Ground.data }, { on := 10, ground := Ground.chain }, { on := 10, ground := Ground.guard }], guard := some (10, true) }) rfl (fun KK hK => ?_) ?_
      · go_simp
        go_wp2_with (go_at_call 23; refine (HFO.out _ (HV.out _ hHeld.bel)).mono ?_; rintro e w8 ⟨rfl, hB8⟩)
        have hT8 := hHeld.below hB8
        clear hHeld hB8
        refine hK.out _ _ hT8 (fun hHeld => ?_)
        clear hK hT8
        refine wpAnyH_ready (rs := [14]) (by kernel_rfl) (by simp) ?_
        refine AllReadyH.cons (o := { dst := some 43, op := Op.call { callee := Callee.value (Operand.func 22), args := #[Operand.tmp 42], argTypes := #[52] }, type := 59, pos := "law.go:63", after := #[{ on := 13, ground := Ground.data }, { on := 12, ground := Ground.chain }, { on := 10, ground := Ground.guard }], guard := some (10, true) }) rfl (fun KK hK => ?_) ?_
        · go_simp
          go_wp2_with (go_at_call 22; refine (HCI.out _).mono ?_; rintro e w8 ⟨rfl, hB8⟩)
          have hT8 := hHeld.below hB8
          clear hHeld hB8
          refine hK.out _ _ hT8 (fun hHeld => ?_)
          clear hK hT8
          refine wpAnyH_ready (rs := [15]) (by kernel_rfl) (by simp) ?_
          refine AllReadyH.cons (o := { dst := some 44, op := Op.call { callee := Callee.value (Operand.func 24), args := #[Operand.tmp 43], argTypes := #[59] }, type := 9, pos := "law.go:63", after := #[{ on := 14, ground := Ground.data }, { on := 14, ground := Ground.chain }, { on := 10, ground := Ground.guard }], guard := some (10, true) }) rfl (fun KK hK => ?_) ?_
          · go_simp
            go_wp2_with (go_at_call 24; refine (HDF.out _ (HV.out _ hHeld.bel)).mono ?_; rintro e w8 ⟨rfl, hB8⟩)
            have hT8 := hHeld.below hB8
            clear hHeld hB8
            refine hK.out _ _ hT8 (fun hHeld => ?_)
            clear hK hT8
            refine wpAnyH_take (i := 16) (oi := { dst := some 45, op := Op.binOp BinOp.eql 9 (Operand.tmp 41) (Operand.tmp 44) 9, type := 4, pos := "law.go:63", after := #[{ on := 12, ground := Ground.data }, { on := 15, ground := Ground.data }, { on := 10, ground := Ground.guard }], guard := some (10, true) }) (v := .bool true) rfl (by kernel_rfl) (by kernel_rfl) (by kernel_rfl) (fun _ _ _ h => h) (Or.inl ⟨by rfl, ?h16_1⟩) hHeld ?_
            case h16_1 => intro wv hSw; (try dsimp only at hSw); go_simp; try with_reducible rfl
            try simp only [Act.put, List.setIfInBounds_toArray, List.set_cons_zero, List.set_cons_succ]
            refine wpAnyH_take (i := 17) (oi := { dst := some 46, op := Op.pick (Operand.tmp 39) (Operand.tmp 45) (Operand.const (Value.bool false)), type := 4, pos := "law.go:63", after := #[{ on := 10, ground := Ground.data }, { on := 16, ground := Ground.data }], guard := none }) (v := .bool true) rfl (by kernel_rfl) (by kernel_rfl) (by kernel_rfl) (fun _ _ _ h => h) (Or.inl ⟨by rfl, ?h17_2⟩) hHeld ?_
            case h17_2 => intro wv hSw; (try dsimp only at hSw); kernel_rfl
            try simp only [Act.put, List.setIfInBounds_toArray, List.set_cons_zero, List.set_cons_succ]
            refine wpAnyH_take (i := 18) (oi := { dst := some 4, op := Op.assign (Operand.tmp 46), type := 4, pos := "law.go:63", after := #[{ on := 17, ground := Ground.data }, { on := 15, ground := Ground.chain }, { on := 0, ground := Ground.phase }, { on := 1, ground := Ground.phase }, { on := 2, ground := Ground.phase }, { on := 3, ground := Ground.phase }, { on := 4, ground := Ground.phase }, { on := 5, ground := Ground.phase }, { on := 6, ground := Ground.phase }, { on := 7, ground := Ground.phase }, { on := 8, ground := Ground.phase }, { on := 9, ground := Ground.phase }, { on := 10, ground := Ground.phase }, { on := 11, ground := Ground.phase }, { on := 12, ground := Ground.phase }, { on := 13, ground := Ground.phase }, { on := 14, ground := Ground.phase }, { on := 15, ground := Ground.phase }, { on := 16, ground := Ground.phase }, { on := 17, ground := Ground.phase }], guard := none }) (v := .bool true) rfl (by kernel_rfl) (by kernel_rfl) (by kernel_rfl) (fun _ _ _ h => h) (Or.inl ⟨by rfl, ?h18_3⟩) hHeld ?_
            case h18_3 => intro wv hSw; (try dsimp only at hSw); kernel_rfl
            try simp only [Act.put, List.setIfInBounds_toArray, List.set_cons_zero, List.set_cons_succ]
            refine wpAnyH_done (by kernel_rfl) ?_ _
            go_wp2
            go_ret
            exact ⟨rfl, hHeld.bel⟩
          exact AllReadyH.nil
        exact AllReadyH.nil
      exact AllReadyH.nil
    exact AllReadyH.nil
  exact AllReadyH.nil
end Go.Proofs.YtbckogojnjmjcaaGreatDoor
