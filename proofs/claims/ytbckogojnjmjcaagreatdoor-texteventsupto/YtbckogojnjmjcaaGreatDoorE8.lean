/-
  The document: what came back.
-/
import Derived.Test.YtbckogojnjmjcaaGreatDoorE7
namespace Go.Proofs.YtbckogojnjmjcaaGreatDoor
open Go.RowKit Go.Shelf

/-- The document's event's box, and what is below. -/
structure RS (w : World) (cs : Array Value) (V : World) : Prop where
  x : V.heap[w.heap.size]? = some (.cells cs 78 (0, 0))
  bel : Below w.heap.size w V
theorem RS.below {w V V' : World} {cs : Array Value} (h : RS w cs V) (hB : Below V.heap.size V V') : RS w cs V' := ⟨(hB.block _ (Array.getElem?_eq_some_iff.1 h.x).1).trans h.x, h.bel.trans (hB.mono h.bel.size)⟩
set_option maxRecDepth 100000 in
set_option maxHeartbeats 4000000 in
theorem rev8_any (e : Ev) (he : EvOk e) (hk : e.kind = 8) (w : World) (hv : Vars w) : Calls Tryz.prog 26 #[.agg e.cells] w fun r w' => r = .returned (.string ⟨(evL e).toArray⟩) ∧ Below w.heap.size w w' := by
  have hrn := he.node
  have hru := he.number
  have hrc := he.client
  have hvl := he.val
  obtain ⟨kind, node, client, number, code, val⟩ := e
  simp only at hk hrn hru hrc hvl
  obtain ⟨W0, hW0⟩ : ∃ W0, w.alloc (.cells #[.int .i64 kind, .int .i64 node, .int .i64 client, .int .i64 number, .int .i64 code, .string ⟨val.toArray⟩] 78) = W0 := ⟨_, rfl⟩
  have HB0 : Hid (Below w.heap.size w W0) := by show Below _ _ _; rw [← hW0]; exact (Below.refl _ _).alloc (Nat.le_refl _) _
  have hX0 : W0.heap[w.heap.size]? = some (.cells #[.int .i64 kind, .int .i64 node, .int .i64 client, .int .i64 number, .int .i64 code, .string ⟨val.toArray⟩] 78 (0, 0)) := by rw [← hW0]; exact heap_alloc_new w _
  have HX0 : Hid (W0.heap[w.heap.size]? = some (.cells #[.int .i64 kind, .int .i64 node, .int .i64 client, .int .i64 number, .int .i64 code, .string ⟨val.toArray⟩] 78 (0, 0))) := hX0
  have c1 : W0.cell? ⟨w.heap.size, 1, none⟩ = some (.int .i64 node) := by simp only [World.cell?, hX0]; rfl
  have HW0 : Hid (_ = W0) := hW0
  have hz0 : w.heap.size < W0.heap.size := (Array.getElem?_eq_some_iff.1 hX0).1
  have HV : Hid (∀ W, Below w.heap.size w W → Vars W) := fun W h => hv.below h
  have HIN := itoa_any node hrn.1 hrn.2 W0 (HV.out _ HB0.out)
  have HIU := fun W h => itoa_any number hru.1 hru.2 W h
  have hln := itoa_len node hrn.1 hrn.2
  have hlu := itoa_len number hru.1 hru.2
  unfold str at HIN HIU
  unfold Ev.cells
  generalize hsn : Lib.itoa node = sn at *
  generalize hsu : Lib.itoa number = su at *
  have HE0 : Hid (evL ⟨kind, node, client, number, code, val⟩ = [98, 97, 99, 107, 32] ++ Lib.itoa client ++ [32] ++ sn ++ [32] ++ repL code val) := by show _ = _; unfold evL; simp [hk, tellL, hsn]
  have HIC0 : Hid (∀ W, Vars W → Calls Tryz.prog 58 #[.int .i64 client] W fun e w' => e = .returned (.string ⟨(Lib.itoa client).toArray⟩) ∧ Below W.heap.size W w') := fun W h => itoa_any client hrc.1 hrc.2 W h
  have HRP : Hid (∀ W, Calls Tryz.prog 28 #[.agg #[.int .i64 code, .string ⟨val.toArray⟩]] W fun e w' => e = .returned (.string ⟨(repL code val).toArray⟩) ∧ Below W.heap.size W w') := fun W => rreply_any code val hvl W
  have hrl := repL_len code val hvl
  have hlc := itoa_len client hrc.1 hrc.2
  subst hk
  generalize Lib.itoa client = sc at *
  generalize repL code val = rp at *
  have hcu := cat2 [32] su
  clear hW0 hX0 hv
  go_enter Tryz.func26, Tryz.ntmps26
  go_upto_region 1 with fail
  rw [HW0.out]
  go_wp2_with fail
  refine HIN.mono ?_
  rintro r w1 ⟨rfl, hB1⟩
  have HB1 : Hid (Below w.heap.size w w1) := HB0.out.trans (hB1.mono HB0.out.size)
  have hX1 := (hB1.block _ hz0).trans HX0.out
  have d0 : w1.cell? ⟨w.heap.size, 0, none⟩ = some (.int .i64 8) := by simp only [World.cell?, hX1]; rfl
  have d3 : w1.cell? ⟨w.heap.size, 3, none⟩ = some (.int .i64 number) := by simp only [World.cell?, hX1]; rfl
  have HX1 : Hid _ := hX1
  have hz1 : w.heap.size < w1.heap.size := (Array.getElem?_eq_some_iff.1 hX1).1
  have HIU1 := HIU w1 (HV.out _ HB1.out)
  clear hX1 hB1 HIN c1 HX0
  go_wp2_with fail
  refine HIU1.mono ?_
  rintro r w2 ⟨rfl, hB2⟩
  have HB2 : Hid (Below w.heap.size w w2) := HB1.out.trans (hB2.mono HB1.out.size)
  have hX2 := (hB2.block _ hz1).trans HX1.out
  have e0 : w2.cell? ⟨w.heap.size, 0, none⟩ = some (.int .i64 8) := by simp only [World.cell?, hX2]; rfl
  have HX2 : Hid (w2.heap[w.heap.size]? = _) := hX2
  clear hX2 hB2 HIU1 d0 d3 HX1
  have HS0 : Hid (RS w (#[.int .i64 8, .int .i64 node, .int .i64 client, .int .i64 number, .int .i64 code, .string ⟨val.toArray⟩]) w2.drew) := ⟨HX2.out, HB2.out.drew⟩
  have HIC : Hid (Calls Tryz.prog 58 #[.int .i64 client] w2.drew fun e w' => e = .returned (.string ⟨sc.toArray⟩) ∧ Below w2.drew.heap.size w2.drew w') := HIC0.out _ (HV.out _ HB2.out.drew)
  obtain ⟨s3, h3⟩ : ∃ s3, s3 = [98, 97, 99, 107, 32] ++ sc := ⟨_, rfl⟩
  obtain ⟨s4, h4⟩ : ∃ s4, s4 = s3 ++ [32] := ⟨_, rfl⟩
  obtain ⟨s6, h6⟩ : ∃ s6, s6 = s4 ++ sn := ⟨_, rfl⟩
  obtain ⟨s7, h7⟩ : ∃ s7, s7 = s6 ++ [32] := ⟨_, rfl⟩
  obtain ⟨s9, h9⟩ : ∃ s9, s9 = s7 ++ rp := ⟨_, rfl⟩
  have hg3 : s3.length = 5 + sc.length := by rw [h3]; simp; try omega
  have hg4 : s4.length = s3.length + 1 := by rw [h4]; simp
  have hg6 : s6.length = s4.length + sn.length := by rw [h6]; simp
  have hg7 : s7.length = s6.length + 1 := by rw [h7]; simp
  have hg9 : s9.length = s7.length + rp.length := by rw [h9]; simp
  have HS3 : Hid ([98, 97, 99, 107, 32] ++ sc = s3) := h3.symm
  have HS4 : Hid (s3 ++ [32] = s4) := h4.symm
  have HS6 : Hid (s4 ++ sn = s6) := h6.symm
  have HS7 : Hid (s6 ++ [32] = s7) := h7.symm
  have HS9 : Hid (s7 ++ rp = s9) := h9.symm
  have HE : Hid (evL ⟨8, node, client, number, code, val⟩ = s9) := by show _ = _; rw [HE0.out, h9, h7, h6, h4, h3]
  clear h3 h4 h6 h7 h9 HE0 HIC0 HX2 HB2
  go_upto_region 17 with fail
  clear hcu hsn hsu
  refine wp_region_held_drew (S := RS w (#[.int .i64 8, .int .i64 node, .int .i64 client, .int .i64 number, .int .i64 code, .string ⟨val.toArray⟩])) (by kernel_rfl) HS0.out (fun hHeld => ?_)
  refine wpAnyH_take (i := 0) (oi := { dst := some 50, op := Op.fieldAddr 78 (Operand.tmp 1) 2, type := 0, pos := "text.go:398", after := #[], guard := none }) (v := .pointer (some ⟨w.heap.size, 2, none⟩)) rfl (by kernel_rfl) (by kernel_rfl) (by kernel_rfl) (fun _ _ _ h => h) (Or.inl ⟨by rfl, ?h0⟩) hHeld ?_
  case h0 => intro wv hSw; (try dsimp only at hSw); kernel_rfl
  try simp only [Act.put, List.setIfInBounds_toArray, List.set_cons_zero, List.set_cons_succ]
  refine wpAnyH_take (i := 1) (oi := { dst := some 51, op := Op.load 3 (Operand.tmp 50), type := 3, pos := "text.go:398", after := #[{ on := 0, ground := Ground.data }], guard := none }) (v := .int .i64 client) rfl (by kernel_rfl) (by kernel_rfl) (by kernel_rfl) (fun _ _ _ h => h) (Or.inl ⟨by rfl, ?h1⟩) hHeld ?_
  case h1 => intro wv hSw; (try dsimp only at hSw); have hc : wv.cell? ⟨w.heap.size, 2, none⟩ = some (.int .i64 client) := (by have h0 := hSw.x; simp only [World.cell?, h0]; rfl); go_simp; try with_reducible rfl
  try simp only [Act.put, List.setIfInBounds_toArray, List.set_cons_zero, List.set_cons_succ]
  refine wpAnyH_take (i := 5) (oi := { dst := some 55, op := Op.move (Operand.tmp 3), type := 9, pos := "text.go:398", after := #[], guard := none }) (v := .string ⟨sn.toArray⟩) rfl (by kernel_rfl) (by kernel_rfl) (by kernel_rfl) (fun _ _ _ h => h) (Or.inl ⟨by rfl, ?h5⟩) hHeld ?_
  case h5 => intro wv hSw; (try dsimp only at hSw); kernel_rfl
  try simp only [Act.put, List.setIfInBounds_toArray, List.set_cons_zero, List.set_cons_succ]
  refine wpAnyH_take (i := 8) (oi := { dst := some 58, op := Op.fieldAddr 78 (Operand.tmp 1) 4, type := 0, pos := "text.go:398", after := #[], guard := none }) (v := .pointer (some ⟨w.heap.size, 4, none⟩)) rfl (by kernel_rfl) (by kernel_rfl) (by kernel_rfl) (fun _ _ _ h => h) (Or.inl ⟨by rfl, ?h8⟩) hHeld ?_
  case h8 => intro wv hSw; (try dsimp only at hSw); kernel_rfl
  try simp only [Act.put, List.setIfInBounds_toArray, List.set_cons_zero, List.set_cons_succ]
  refine wpAnyH_take (i := 9) (oi := { dst := some 59, op := Op.load 70 (Operand.tmp 58), type := 70, pos := "text.go:398", after := #[{ on := 8, ground := Ground.data }], guard := none }) (v := .agg #[.int .i64 code, .string ⟨val.toArray⟩]) rfl (by kernel_rfl) (by kernel_rfl) (by kernel_rfl) (fun _ _ _ h => h) (Or.inl ⟨by rfl, ?h9⟩) hHeld ?_
  case h9 => intro wv hSw; (try dsimp only at hSw); exact load_midF rfl (by kernel_rfl) (run_loadVar_mid (P := Tryz.prog) _ w.heap.size 4 70 [.int .i64 code, .string ⟨val.toArray⟩] _ (range_ofF hSw.x rfl) Tryz.underlying70 rfl (by kernel_rfl))
  try simp only [Act.put, List.setIfInBounds_toArray, List.set_cons_zero, List.set_cons_succ]
  refine wpAnyH_ready (rs := [2]) (by kernel_rfl) (by simp) ?_
  refine AllReadyH.cons (o := { dst := some 52, op := Op.call { callee := Callee.value (Operand.func 58), args := #[Operand.tmp 51], argTypes := #[3] }, type := 9, pos := "text.go:398", after := #[{ on := 1, ground := Ground.data }], guard := none }) rfl (fun KK hK => ?_) ?_
  · go_simp
    go_wp2_with (go_at_call 58; refine HIC.out.mono ?_; rintro r w6 ⟨rfl, hB6⟩)
    have hT6 : RS w (#[.int .i64 8, .int .i64 node, .int .i64 client, .int .i64 number, .int .i64 code, .string ⟨val.toArray⟩]) w6 := HS0.out.below hB6
    clear hHeld hB6
    refine hK.out _ _ hT6 (fun hHeld => ?_)
    clear hK hT6
    refine wpAnyH_take (i := 3) (oi := { dst := some 53, op := Op.binOp BinOp.add 9 (Operand.const (Value.string { data := #[98, 97, 99, 107, 32] })) (Operand.tmp 52) 9, type := 9, pos := "text.go:398", after := #[{ on := 2, ground := Ground.data }], guard := none }) (v := .string ⟨s3.toArray⟩) rfl (by kernel_rfl) (by kernel_rfl) (by kernel_rfl) (fun _ _ _ h => h) (Or.inl ⟨by rfl, ?h3⟩) hHeld ?_
    case h3 => intro wv hSw; (try dsimp only at hSw); go_simp; first | (rw [if_neg (by omega), cat2, HS3.out]) | (rw [cat2, HS3.out]) | (rw [if_neg (by simp only [List.length_toArray, List.size_toArray, ByteArray.size]; omega), cat2, HS3.out]) | (trace_state; sorry)
    try simp only [Act.put, List.setIfInBounds_toArray, List.set_cons_zero, List.set_cons_succ]
    refine wpAnyH_take (i := 4) (oi := { dst := some 54, op := Op.binOp BinOp.add 9 (Operand.tmp 53) (Operand.const (Value.string { data := #[32] })) 9, type := 9, pos := "text.go:398", after := #[{ on := 3, ground := Ground.data }], guard := none }) (v := .string ⟨s4.toArray⟩) rfl (by kernel_rfl) (by kernel_rfl) (by kernel_rfl) (fun _ _ _ h => h) (Or.inl ⟨by rfl, ?h4⟩) hHeld ?_
    case h4 => intro wv hSw; (try dsimp only at hSw); go_simp; first | (rw [if_neg (by omega), cat2, HS4.out]) | (rw [cat2, HS4.out]) | (rw [if_neg (by simp only [List.length_toArray, List.size_toArray, ByteArray.size]; omega), cat2, HS4.out]) | (trace_state; sorry)
    try simp only [Act.put, List.setIfInBounds_toArray, List.set_cons_zero, List.set_cons_succ]
    refine wpAnyH_take (i := 6) (oi := { dst := some 56, op := Op.binOp BinOp.add 9 (Operand.tmp 54) (Operand.tmp 55) 9, type := 9, pos := "text.go:398", after := #[{ on := 4, ground := Ground.data }, { on := 5, ground := Ground.data }], guard := none }) (v := .string ⟨s6.toArray⟩) rfl (by kernel_rfl) (by kernel_rfl) (by kernel_rfl) (fun _ _ _ h => h) (Or.inl ⟨by rfl, ?h6⟩) hHeld ?_
    case h6 => intro wv hSw; (try dsimp only at hSw); go_simp; first | (rw [if_neg (by omega), cat2, HS6.out]) | (rw [cat2, HS6.out]) | (rw [if_neg (by simp only [List.length_toArray, List.size_toArray, ByteArray.size]; omega), cat2, HS6.out]) | (trace_state; sorry)
    try simp only [Act.put, List.setIfInBounds_toArray, List.set_cons_zero, List.set_cons_succ]
    refine wpAnyH_take (i := 7) (oi := { dst := some 57, op := Op.binOp BinOp.add 9 (Operand.tmp 56) (Operand.const (Value.string { data := #[32] })) 9, type := 9, pos := "text.go:398", after := #[{ on := 6, ground := Ground.data }], guard := none }) (v := .string ⟨s7.toArray⟩) rfl (by kernel_rfl) (by kernel_rfl) (by kernel_rfl) (fun _ _ _ h => h) (Or.inl ⟨by rfl, ?h7⟩) hHeld ?_
    case h7 => intro wv hSw; (try dsimp only at hSw); go_simp; first | (rw [if_neg (by omega), cat2, HS7.out]) | (rw [cat2, HS7.out]) | (rw [if_neg (by simp only [List.length_toArray, List.size_toArray, ByteArray.size]; omega), cat2, HS7.out]) | (trace_state; sorry)
    try simp only [Act.put, List.setIfInBounds_toArray, List.set_cons_zero, List.set_cons_succ]
    refine wpAnyH_ready (rs := [10]) (by kernel_rfl) (by simp) ?_
    refine AllReadyH.cons (o := { dst := some 60, op := Op.call { callee := Callee.value (Operand.func 28), args := #[Operand.tmp 59], argTypes := #[70] }, type := 9, pos := "text.go:398", after := #[{ on := 9, ground := Ground.data }, { on := 2, ground := Ground.chain }], guard := none }) rfl (fun KK hK => ?_) ?_
    · go_simp
      go_wp2_with (go_at_call 28; refine (HRP.out _).mono ?_; rintro r w7 ⟨rfl, hB7⟩)
      have hT7 := hHeld.below hB7
      clear hHeld hB7
      refine hK.out _ _ hT7 (fun hHeld => ?_)
      clear hK hT7
      refine wpAnyH_take (i := 11) (oi := { dst := some 61, op := Op.binOp BinOp.add 9 (Operand.tmp 57) (Operand.tmp 60) 9, type := 9, pos := "text.go:398", after := #[{ on := 7, ground := Ground.data }, { on := 10, ground := Ground.data }], guard := none }) (v := .string ⟨s9.toArray⟩) rfl (by kernel_rfl) (by kernel_rfl) (by kernel_rfl) (fun _ _ _ h => h) (Or.inl ⟨by rfl, ?h11⟩) hHeld ?_
      case h11 => intro wv hSw; (try dsimp only at hSw); go_simp; first | (rw [if_neg (by omega), cat2, HS9.out]) | (rw [cat2, HS9.out]) | (rw [if_neg (by simp only [List.length_toArray, List.size_toArray, ByteArray.size]; omega), cat2, HS9.out]) | (trace_state; sorry)
      try simp only [Act.put, List.setIfInBounds_toArray, List.set_cons_zero, List.set_cons_succ]
      refine wpAnyH_take (i := 12) (oi := { dst := some 2, op := Op.assign (Operand.tmp 61), type := 9, pos := "text.go:398", after := #[{ on := 11, ground := Ground.data }, { on := 10, ground := Ground.chain }, { on := 0, ground := Ground.phase }, { on := 1, ground := Ground.phase }, { on := 2, ground := Ground.phase }, { on := 3, ground := Ground.phase }, { on := 4, ground := Ground.phase }, { on := 5, ground := Ground.phase }, { on := 6, ground := Ground.phase }, { on := 7, ground := Ground.phase }, { on := 8, ground := Ground.phase }, { on := 9, ground := Ground.phase }, { on := 10, ground := Ground.phase }, { on := 11, ground := Ground.phase }], guard := none }) (v := .string ⟨s9.toArray⟩) rfl (by kernel_rfl) (by kernel_rfl) (by kernel_rfl) (fun _ _ _ h => h) (Or.inl ⟨by rfl, ?h12⟩) hHeld ?_
      case h12 => intro wv hSw; (try dsimp only at hSw); kernel_rfl
      try simp only [Act.put, List.setIfInBounds_toArray, List.set_cons_zero, List.set_cons_succ]
      refine wpAnyH_done (by kernel_rfl) ?_ _
      go_wp2
      go_ret
      exact ⟨by rw [HE.out]; rfl, hHeld.bel⟩
    exact AllReadyH.nil
  exact AllReadyH.nil
end Go.Proofs.YtbckogojnjmjcaaGreatDoor
