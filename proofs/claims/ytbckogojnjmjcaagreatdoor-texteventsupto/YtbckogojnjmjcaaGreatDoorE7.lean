/-
  What came back: the line of an event.
-/
import Derived.Test.YtbckogojnjmjcaaGreatDoorJeb
import Derived.Test.YtbckogojnjmjcaaGreatDoorFw
import Derived.Deep.MidRow
namespace Go.Proofs.YtbckogojnjmjcaaGreatDoor
open Go.RowKit Go.Shelf

theorem load_midF {P : Program} {o : Oper} {a : Act} {w : World} {t : TypeId} {x : Operand} {b off : Nat} {v : Value} (ho : o.op = .load t x) (hx : a.eval x = .pointer (some ⟨b, off, none⟩)) (h : (loadVar t ⟨b, off, none⟩).run P w = .ok v w) : (execOp a.eval o).run P w = .ok (.value v) w := by
  unfold execOp
  simp only [ho, hx, Instr.loadAt, Instr.sureAddr, Sem.run_bind, Sem.run_pure, Result.andThen_ok, h]
theorem range_ofF {w : World} {b : Nat} {X : Array Value} {t : TypeId} {fr : Nat × Nat} {o : Nat} {cs : List Value} (h : w.heap[b]? = some (.cells X t fr)) (hc : cs = (X.toList.drop o).take cs.length) : w.rangeAt b o cs := fun j v hj => by
  have hlt := (List.getElem?_eq_some_iff.1 hj).1
  simp only [World.cell?, h]
  rw [hc, List.getElem?_take, if_pos hlt, List.getElem?_drop] at hj
  simpa using hj
/-- The event's box, and what is below. -/
structure ES (w : World) (cs : Array Value) (V : World) : Prop where
  x : V.heap[w.heap.size]? = some (.cells cs 74 (0, 0))
  bel : Below w.heap.size w V
theorem ES.below {w V V' : World} {cs : Array Value} (h : ES w cs V) (hB : Below V.heap.size V V') : ES w cs V' := ⟨(hB.block _ (Array.getElem?_eq_some_iff.1 h.x).1).trans h.x, h.bel.trans (hB.mono h.bel.size)⟩
set_option maxRecDepth 100000 in
set_option maxHeartbeats 4000000 in
theorem ev8_any (e : Ev) (he : EvOk e) (hk : e.kind = 8) (w : World) (hv : Vars w) : Calls Tryz.prog 25 #[.agg e.cells] w fun r w' => r = .returned (.string ⟨(evL e).toArray⟩) ∧ Below w.heap.size w w' := by
  have hrn := he.node
  have hrc := he.client
  have hru := he.number
  have hvl := he.val
  obtain ⟨kind, node, client, number, code, val⟩ := e
  simp only at hk hrn hrc hru hvl
  obtain ⟨W0, hW0⟩ : ∃ W0, w.alloc (.cells #[.int .i64 kind, .int .i64 node, .int .i64 client, .int .i64 number, .int .i64 code, .string ⟨val.toArray⟩] 74) = W0 := ⟨_, rfl⟩
  have HB0 : Hid (Below w.heap.size w W0) := by show Below _ _ _; rw [← hW0]; exact (Below.refl _ _).alloc (Nat.le_refl _) _
  have hX0 : W0.heap[w.heap.size]? = some (.cells #[.int .i64 kind, .int .i64 node, .int .i64 client, .int .i64 number, .int .i64 code, .string ⟨val.toArray⟩] 74 (0, 0)) := by rw [← hW0]; exact heap_alloc_new w _
  have c0 : W0.cell? ⟨w.heap.size, 0, none⟩ = some (.int .i64 kind) := by simp only [World.cell?, hX0]; rfl
  have c1 : W0.cell? ⟨w.heap.size, 1, none⟩ = some (.int .i64 node) := by simp only [World.cell?, hX0]; rfl
  have c2 : W0.cell? ⟨w.heap.size, 2, none⟩ = some (.int .i64 client) := by simp only [World.cell?, hX0]; rfl
  have c3 : W0.cell? ⟨w.heap.size, 3, none⟩ = some (.int .i64 number) := by simp only [World.cell?, hX0]; rfl
  have HW0 : Hid (_ = W0) := hW0
  have HX0 : Hid _ := hX0
  have hv0 := hv.below HB0.out
  unfold Ev.cells
  have HE : Hid (evL ⟨kind, node, client, number, code, val⟩ = tellL [98, 97, 99, 107] [client, node] ++ 32 :: repL code val) := by show _ = _; unfold evL; simp [hk]
  have HT : Hid (Calls Tryz.prog 61 #[.string ⟨#[98, 97, 99, 107]⟩, .slice (some ⟨W0.heap.size, 0, none⟩) 2 2] (W0.drew.alloc (.cells #[.int .i64 client, .int .i64 node] 3)) fun e w' => e = .returned (.string ⟨(tellL [98, 97, 99, 107] [client, node]).toArray⟩) ∧ Below W0.drew.heap.size W0.drew w') := tell2_any [98, 97, 99, 107] (by decide) client node hrc hrn W0.drew (hv.below HB0.out.drew)
  have HRP : Hid (∀ W, Calls Tryz.prog 27 #[.agg #[.int .i64 code, .string ⟨val.toArray⟩]] W fun e w' => e = .returned (.string ⟨(repL code val).toArray⟩) ∧ Below W.heap.size W w') := fun W => reply_any code val hvl W
  have hrl := repL_len code val hvl
  have hll : (tellL [98, 97, 99, 107] [client, node]).length ≤ 100 := by
    have i1 := itoa_len client hrc.1 hrc.2
    have i2 := itoa_len node hrn.1 hrn.2
    simp only [tellL, List.length_append, List.length_cons, List.length_nil]
    omega
  subst hk
  have HS0 : Hid (ES w (#[.int .i64 8, .int .i64 node, .int .i64 client, .int .i64 number, .int .i64 code, .string ⟨val.toArray⟩]) W0.drew) := ⟨hX0, HB0.out.drew⟩
  clear hW0 hX0 hv hv0 HX0
  generalize tellL [98, 97, 99, 107] [client, node] = tl at *
  generalize repL code val = rp at *
  go_enter Tryz.func25, Tryz.ntmps25
  go_upto_region 1 with fail
  rw [HW0.out]
  go_upto_region 15 with fail
  refine wp_region_held_drew (S := ES w (#[.int .i64 8, .int .i64 node, .int .i64 client, .int .i64 number, .int .i64 code, .string ⟨val.toArray⟩])) (by kernel_rfl) HS0.out (fun hHeld => ?_)
  refine wpAnyH_take (i := 0) (oi := { dst := some 53, op := Op.fieldAddr 74 (Operand.tmp 1) 2, type := 0, pos := "told.go:27", after := #[], guard := none }) (v := .pointer (some ⟨w.heap.size, 2, none⟩)) rfl (by kernel_rfl) (by kernel_rfl) (by kernel_rfl) (fun _ _ _ h => h) (Or.inl ⟨by rfl, ?h0⟩) hHeld ?_
  case h0 => intro wv hSw; (try dsimp only at hSw); kernel_rfl
  try simp only [Act.put, List.setIfInBounds_toArray, List.set_cons_zero, List.set_cons_succ]
  refine wpAnyH_take (i := 1) (oi := { dst := some 54, op := Op.load 3 (Operand.tmp 53), type := 3, pos := "told.go:27", after := #[{ on := 0, ground := Ground.data }], guard := none }) (v := .int .i64 client) rfl (by kernel_rfl) (by kernel_rfl) (by kernel_rfl) (fun _ _ _ h => h) (Or.inl ⟨by rfl, ?h1⟩) hHeld ?_
  case h1 => intro wv hSw; (try dsimp only at hSw); have hc : wv.cell? ⟨w.heap.size, 2, none⟩ = some (.int .i64 client) := (by have h0 := hSw.x; simp only [World.cell?, h0]; rfl); go_simp; try with_reducible rfl
  try simp only [Act.put, List.setIfInBounds_toArray, List.set_cons_zero, List.set_cons_succ]
  refine wpAnyH_take (i := 2) (oi := { dst := some 55, op := Op.fieldAddr 74 (Operand.tmp 1) 1, type := 0, pos := "told.go:27", after := #[], guard := none }) (v := .pointer (some ⟨w.heap.size, 1, none⟩)) rfl (by kernel_rfl) (by kernel_rfl) (by kernel_rfl) (fun _ _ _ h => h) (Or.inl ⟨by rfl, ?h2⟩) hHeld ?_
  case h2 => intro wv hSw; (try dsimp only at hSw); kernel_rfl
  try simp only [Act.put, List.setIfInBounds_toArray, List.set_cons_zero, List.set_cons_succ]
  refine wpAnyH_take (i := 3) (oi := { dst := some 56, op := Op.load 3 (Operand.tmp 55), type := 3, pos := "told.go:27", after := #[{ on := 2, ground := Ground.data }], guard := none }) (v := .int .i64 node) rfl (by kernel_rfl) (by kernel_rfl) (by kernel_rfl) (fun _ _ _ h => h) (Or.inl ⟨by rfl, ?h3⟩) hHeld ?_
  case h3 => intro wv hSw; (try dsimp only at hSw); have hc : wv.cell? ⟨w.heap.size, 1, none⟩ = some (.int .i64 node) := (by have h0 := hSw.x; simp only [World.cell?, h0]; rfl); go_simp; try with_reducible rfl
  try simp only [Act.put, List.setIfInBounds_toArray, List.set_cons_zero, List.set_cons_succ]
  refine wpAnyH_take (i := 6) (oi := { dst := some 59, op := Op.fieldAddr 74 (Operand.tmp 1) 4, type := 0, pos := "told.go:27", after := #[], guard := none }) (v := .pointer (some ⟨w.heap.size, 4, none⟩)) rfl (by kernel_rfl) (by kernel_rfl) (by kernel_rfl) (fun _ _ _ h => h) (Or.inl ⟨by rfl, ?h6⟩) hHeld ?_
  case h6 => intro wv hSw; (try dsimp only at hSw); kernel_rfl
  try simp only [Act.put, List.setIfInBounds_toArray, List.set_cons_zero, List.set_cons_succ]
  refine wpAnyH_take (i := 7) (oi := { dst := some 60, op := Op.load 70 (Operand.tmp 59), type := 70, pos := "told.go:27", after := #[{ on := 6, ground := Ground.data }], guard := none }) (v := .agg #[.int .i64 code, .string ⟨val.toArray⟩]) rfl (by kernel_rfl) (by kernel_rfl) (by kernel_rfl) (fun _ _ _ h => h) (Or.inl ⟨by rfl, ?h7⟩) hHeld ?_
  case h7 => intro wv hSw; (try dsimp only at hSw); exact load_midF rfl (by kernel_rfl) (run_loadVar_mid (P := Tryz.prog) _ w.heap.size 4 70 [.int .i64 code, .string ⟨val.toArray⟩] _ (range_ofF hSw.x rfl) Tryz.underlying70 rfl (by kernel_rfl))
  try simp only [Act.put, List.setIfInBounds_toArray, List.set_cons_zero, List.set_cons_succ]
  refine wpAnyH_ready (rs := [4]) (by kernel_rfl) (by simp) ?_
  refine AllReadyH.cons (o := { dst := some 57, op := Op.buildSlice 134 2 #[(0, Operand.tmp 54), (1, Operand.tmp 56)], type := 134, pos := "told.go:27", after := #[{ on := 1, ground := Ground.data }, { on := 3, ground := Ground.data }], guard := none }) rfl (fun KK hK => ?_) ?_
  · rw [if_pos (by kernel_rfl)]
    unfold Oper.wp
    refine upon_run (v := .slice (some ⟨W0.heap.size, 0, none⟩) 2 2) (W' := W0.drew.alloc (.cells #[.int .i64 client, .int .i64 node] 3)) (by kernel_rfl) ?_
    refine hK.out _ _ (HS0.out.below ((Below.refl _ _).alloc (Nat.le_refl _) _)) (fun hHeld => ?_)
    clear hK
    refine wpAnyH_ready (rs := [5]) (by kernel_rfl) (by simp) ?_
    refine AllReadyH.cons (o := { dst := some 58, op := Op.call { callee := Callee.value (Operand.func 61), args := #[Operand.const (Value.string { data := #[98, 97, 99, 107] }), Operand.tmp 57], argTypes := #[9, 134] }, type := 9, pos := "told.go:27", after := #[{ on := 4, ground := Ground.data }], guard := none }) rfl (fun KK hK => ?_) ?_
    · go_simp
      go_wp2_with (go_at_call 61; refine HT.out.mono ?_; rintro r w6 ⟨rfl, hB6⟩)
      have hT6 : ES w _ w6 := HS0.out.below hB6
      clear hHeld hB6
      refine hK.out _ _ hT6 (fun hHeld => ?_)
      clear hK hT6
      refine wpAnyH_ready (rs := [8]) (by kernel_rfl) (by simp) ?_
      refine AllReadyH.cons (o := { dst := some 61, op := Op.call { callee := Callee.value (Operand.func 27), args := #[Operand.tmp 60], argTypes := #[70] }, type := 9, pos := "told.go:27", after := #[{ on := 7, ground := Ground.data }, { on := 5, ground := Ground.chain }], guard := none }) rfl (fun KK hK => ?_) ?_
      · go_simp
        go_wp2_with (go_at_call 27; refine (HRP.out _).mono ?_; rintro r w7 ⟨rfl, hB7⟩)
        have hT7' := hHeld.below hB7
        clear hHeld hB7
        refine hK.out _ _ hT7' (fun hHeld => ?_)
        clear hK hT7'
        refine wpAnyH_ready (rs := [9]) (by kernel_rfl) (by simp) ?_
        refine AllReadyH.cons (o := { dst := some 62, op := Op.buildSlice 23 2 #[(0, Operand.tmp 58), (1, Operand.tmp 61)], type := 23, pos := "told.go:27", after := #[{ on := 5, ground := Ground.data }, { on := 8, ground := Ground.data }], guard := none }) rfl (fun KK hK => ?_) ?_
        · rw [if_pos (by kernel_rfl)]
          unfold Oper.wp
          refine upon_run (v := .slice (some ⟨w7.heap.size, 0, none⟩) 2 2) (W' := w7.alloc (.cells #[.string ⟨tl.toArray⟩, .string ⟨rp.toArray⟩] 9)) (by kernel_rfl) ?_
          have hT7 := hHeld
          refine hK.out _ _ (hT7.below ((Below.refl _ _).alloc (Nat.le_refl _) _)) (fun hHeld => ?_)
          clear hK
          refine wpAnyH_ready (rs := [10]) (by kernel_rfl) (by simp) ?_
          refine AllReadyH.cons (o := { dst := some 63, op := Op.call { callee := Callee.value (Operand.func 59), args := #[Operand.tmp 62], argTypes := #[23] }, type := 9, pos := "told.go:27", after := #[{ on := 9, ground := Ground.data }, { on := 8, ground := Ground.chain }], guard := none }) rfl (fun KK hK => ?_) ?_
          · go_simp
            go_wp2_with (go_at_call 59; refine (join2_any tl rp (by omega) (by omega) w7).mono ?_; rintro r w8 ⟨rfl, hB8⟩)
            have hT8 := hT7.below hB8
            clear hHeld hB8
            refine hK.out _ _ hT8 (fun hHeld => ?_)
            clear hK
            refine wpAnyH_take (i := 11) (oi := { dst := some 2, op := Op.assign (Operand.tmp 63), type := 9, pos := "told.go:27", after := #[{ on := 10, ground := Ground.data }, { on := 10, ground := Ground.chain }, { on := 0, ground := Ground.phase }, { on := 1, ground := Ground.phase }, { on := 2, ground := Ground.phase }, { on := 3, ground := Ground.phase }, { on := 4, ground := Ground.phase }, { on := 5, ground := Ground.phase }, { on := 6, ground := Ground.phase }, { on := 7, ground := Ground.phase }, { on := 8, ground := Ground.phase }, { on := 9, ground := Ground.phase }, { on := 10, ground := Ground.phase }], guard := none }) (v := .string ⟨(tl ++ 32 :: rp).toArray⟩) rfl (by kernel_rfl) (by kernel_rfl) (by kernel_rfl) (fun _ _ _ h => h) (Or.inl ⟨by rfl, ?h11⟩) hHeld ?_
            case h11 => intro wv hSw; (try dsimp only at hSw); kernel_rfl
            try simp only [Act.put, List.setIfInBounds_toArray, List.set_cons_zero, List.set_cons_succ]
            refine wpAnyH_done (by kernel_rfl) ?_ _
            go_wp2
            go_ret
            exact ⟨by rw [HE.out]; rfl, hHeld.bel⟩
          exact AllReadyH.nil
        exact AllReadyH.nil
      exact AllReadyH.nil
    exact AllReadyH.nil
  exact AllReadyH.nil
end Go.Proofs.YtbckogojnjmjcaaGreatDoor
