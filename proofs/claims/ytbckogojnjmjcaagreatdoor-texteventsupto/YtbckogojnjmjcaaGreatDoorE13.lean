/-
  The document's line of an operation.
-/
import Derived.Test.YtbckogojnjmjcaaGreatDoorE12
namespace Go.Proofs.YtbckogojnjmjcaaGreatDoor
open Go.RowKit Go.Shelf

set_option maxRecDepth 100000 in
set_option maxHeartbeats 8000000 in
theorem rformatOp_any (x : Ox) (hx : OxOk x) (w : World) (hv : Vars w) : Calls Tryz.prog 32 #[.agg x.cells] w fun r w' => r = .returned (.string ⟨(opL x).toArray⟩) ∧ Below w.heap.size w w' := by
  have hoc := hx.client
  have hos := hx.seq
  have hoa := hx.call
  have hob := hx.back
  have hok := hx.key
  have hov := hx.value
  have hoo := hx.old
  have hol := hx.val
  have HO : Hid (opL x = Lib.itoa x.client ++ [32] ++ Lib.itoa x.seq ++ [32] ++ wordOf 1 opsL x.kind ++ [32] ++ quoteL x.key ++ [32] ++ quoteL x.value ++ [32] ++ quoteL x.old ++ [32] ++ Lib.itoa x.call ++ [32] ++ ansL x) := by show _ = _; simp [opL, Lib.join, List.intercalate]
  have HA0 : Hid (x.back = 0 → ansL x = [111, 112, 101, 110]) := fun h => by unfold ansL; rw [if_pos h]
  have HA1 : Hid (x.back ≠ 0 → ansL x = Lib.itoa x.back ++ 32 :: repL x.code x.val) := fun h => by unfold ansL; rw [if_neg h]
  generalize opL x = ol at *
  generalize ansL x = an at *
  clear hx
  obtain ⟨client, seq, kind, key, value, old, call, back, code, val⟩ := x
  simp only at hoc hos hoa hob hok hov hoo hol HO HA0 HA1
  unfold Ox.cells at *
  obtain ⟨W2, hW2⟩ : ∃ W2, (w.alloc (.cells #[.int .i64 client, .int .i64 seq, .int .i64 kind, .string ⟨key.toArray⟩, .string ⟨value.toArray⟩, .string ⟨old.toArray⟩, .int .i64 call, .int .i64 back, .int .i64 code, .string ⟨val.toArray⟩] 72)).alloc (.cells (opsL.map str).toArray 9) = W2 := ⟨_, rfl⟩
  have HB2 : Hid (Below w.heap.size w W2) := by show Below _ _ _; rw [← hW2]; exact ((Below.refl _ _).alloc (Nat.le_refl _) _).alloc (by simp) _
  have hX2 : W2.heap[w.heap.size]? = some (.cells #[.int .i64 client, .int .i64 seq, .int .i64 kind, .string ⟨key.toArray⟩, .string ⟨value.toArray⟩, .string ⟨old.toArray⟩, .int .i64 call, .int .i64 back, .int .i64 code, .string ⟨val.toArray⟩] 72 (0, 0)) := by rw [← hW2, Below.heap_alloc _ _ _ (by simp)]; exact heap_alloc_new w _
  have hS2 : StrAt W2 (w.heap.size + 1) opsL := by
    have h := heap_alloc_new (w.alloc (.cells #[.int .i64 client, .int .i64 seq, .int .i64 kind, .string ⟨key.toArray⟩, .string ⟨value.toArray⟩, .string ⟨old.toArray⟩, .int .i64 call, .int .i64 back, .int .i64 code, .string ⟨val.toArray⟩] 72)) (.cells (opsL.map str).toArray 9)
    rw [World.size_alloc, hW2] at h
    exact StrAt.of h
  have HS2 : Hid (StrAt W2 (w.heap.size + 1) opsL) := hS2
  have c2 : W2.cell? ⟨w.heap.size, 2, none⟩ = some (.int .i64 kind) := by simp only [World.cell?, hX2]; rfl
  have hWc : (w.alloc (.cells #[.int .i64 client, .int .i64 seq, .int .i64 kind, .string ⟨key.toArray⟩, .string ⟨value.toArray⟩, .string ⟨old.toArray⟩, .int .i64 call, .int .i64 back, .int .i64 code, .string ⟨val.toArray⟩] 72)).alloc (.cells #[.string ⟨#[103, 101, 116]⟩, .string ⟨#[112, 117, 116]⟩, .string ⟨#[100, 101, 108, 101, 116, 101]⟩, .string ⟨#[115, 119, 97, 112]⟩] 9) = W2 := hW2
  have HW2 : Hid (_ = W2) := hWc
  have HS0 : Hid (OS w (#[.int .i64 client, .int .i64 seq, .int .i64 kind, .string ⟨key.toArray⟩, .string ⟨value.toArray⟩, .string ⟨old.toArray⟩, .int .i64 call, .int .i64 back, .int .i64 code, .string ⟨val.toArray⟩]) W2.drew) := ⟨hX2, HB2.out.drew⟩
  have HI1 : Hid (∀ W, Below w.heap.size w W → Calls Tryz.prog 58 #[.int .i64 client] W fun e w' => e = .returned (.string ⟨(Lib.itoa client).toArray⟩) ∧ Below W.heap.size W w') := fun W h => itoa_any client hoc.1 hoc.2 W (hv.below h)
  have HI2 : Hid (∀ W, Below w.heap.size w W → Calls Tryz.prog 58 #[.int .i64 seq] W fun e w' => e = .returned (.string ⟨(Lib.itoa seq).toArray⟩) ∧ Below W.heap.size W w') := fun W h => itoa_any seq hos.1 hos.2 W (hv.below h)
  have HI7 : Hid (∀ W, Below w.heap.size w W → Calls Tryz.prog 58 #[.int .i64 call] W fun e w' => e = .returned (.string ⟨(Lib.itoa call).toArray⟩) ∧ Below W.heap.size W w') := fun W h => itoa_any call hoa.1 hoa.2 W (hv.below h)
  have HI8 : Hid (back ≠ 0 → ∀ W, Below w.heap.size w W → Calls Tryz.prog 58 #[.int .i64 back] W fun e w' => e = .returned (.string ⟨(Lib.itoa back).toArray⟩) ∧ Below W.heap.size W w') := fun _ W h => itoa_any back hob.1 hob.2 W (hv.below h)
  have HQ4 : Hid (∀ W, Calls Tryz.prog 13 #[.string ⟨key.toArray⟩] W fun e w' => e = .returned (.string ⟨(quoteL key).toArray⟩) ∧ Below W.heap.size W w') := fun W => rquote_big key hok W
  have HQ5 : Hid (∀ W, Calls Tryz.prog 13 #[.string ⟨value.toArray⟩] W fun e w' => e = .returned (.string ⟨(quoteL value).toArray⟩) ∧ Below W.heap.size W w') := fun W => rquote_big value hov W
  have HQ6 : Hid (∀ W, Calls Tryz.prog 13 #[.string ⟨old.toArray⟩] W fun e w' => e = .returned (.string ⟨(quoteL old).toArray⟩) ∧ Below W.heap.size W w') := fun W => rquote_big old hoo W
  have HRP : Hid (∀ W, Calls Tryz.prog 28 #[.agg #[.int .i64 code, .string ⟨val.toArray⟩]] W fun e w' => e = .returned (.string ⟨(repL code val).toArray⟩) ∧ Below W.heap.size W w') := fun W => rreply_any code val hol W
  have hl1 := itoa_len client hoc.1 hoc.2
  have hl2 := itoa_len seq hos.1 hos.2
  have hl7 := itoa_len call hoa.1 hoa.2
  have hl8 := itoa_len back hob.1 hob.2
  have hl3 := op_word_len kind
  have hl4 := quote_len key hok
  have hl5 := quote_len value hov
  have hl6 := quote_len old hoo
  have hlr := repL_len code val hol
  clear hW2 hX2 hv hoc hos hoa hok hov hoo hol hob hS2 hWc
  generalize Lib.itoa client = s1 at *
  generalize Lib.itoa seq = s2 at *
  generalize Lib.itoa call = s7 at *
  generalize Lib.itoa back = s8 at *
  generalize quoteL key = s4 at *
  generalize quoteL value = s5 at *
  generalize quoteL old = s6 at *
  generalize repL code val = rp at *
  obtain ⟨sw, hsw⟩ : ∃ sw, sw = wordOf 1 opsL kind := ⟨_, rfl⟩
  rw [← hsw] at hl3 HO
  obtain ⟨s24, h24⟩ : ∃ s24, s24 = s1 ++ [32] := ⟨_, rfl⟩
  obtain ⟨s28, h28⟩ : ∃ s28, s28 = s24 ++ s2 := ⟨_, rfl⟩
  obtain ⟨s29, h29⟩ : ∃ s29, s29 = s28 ++ [32] := ⟨_, rfl⟩
  obtain ⟨s31, h31⟩ : ∃ s31, s31 = s29 ++ sw := ⟨_, rfl⟩
  obtain ⟨s32, h32⟩ : ∃ s32, s32 = s31 ++ [32] := ⟨_, rfl⟩
  obtain ⟨s36, h36⟩ : ∃ s36, s36 = s32 ++ s4 := ⟨_, rfl⟩
  obtain ⟨s37, h37⟩ : ∃ s37, s37 = s36 ++ [32] := ⟨_, rfl⟩
  obtain ⟨s41, h41⟩ : ∃ s41, s41 = s37 ++ s5 := ⟨_, rfl⟩
  obtain ⟨s42, h42⟩ : ∃ s42, s42 = s41 ++ [32] := ⟨_, rfl⟩
  obtain ⟨s46, h46⟩ : ∃ s46, s46 = s42 ++ s6 := ⟨_, rfl⟩
  obtain ⟨s47, h47⟩ : ∃ s47, s47 = s46 ++ [32] := ⟨_, rfl⟩
  obtain ⟨s51, h51⟩ : ∃ s51, s51 = s47 ++ s7 := ⟨_, rfl⟩
  obtain ⟨s58, h58⟩ : ∃ s58, s58 = s51 ++ [32] := ⟨_, rfl⟩
  obtain ⟨s62, h62⟩ : ∃ s62, s62 = s58 ++ s8 := ⟨_, rfl⟩
  obtain ⟨s63, h63⟩ : ∃ s63, s63 = s62 ++ [32] := ⟨_, rfl⟩
  obtain ⟨s67, h67⟩ : ∃ s67, s67 = s63 ++ rp := ⟨_, rfl⟩
  have hg24 : s24.length = s1.length + 1 := by rw [h24]; simp
  have hg28 : s28.length = s24.length + s2.length := by rw [h28]; simp
  have hg29 : s29.length = s28.length + 1 := by rw [h29]; simp
  have hg31 : s31.length = s29.length + sw.length := by rw [h31]; simp
  have hg32 : s32.length = s31.length + 1 := by rw [h32]; simp
  have hg36 : s36.length = s32.length + s4.length := by rw [h36]; simp
  have hg37 : s37.length = s36.length + 1 := by rw [h37]; simp
  have hg41 : s41.length = s37.length + s5.length := by rw [h41]; simp
  have hg42 : s42.length = s41.length + 1 := by rw [h42]; simp
  have hg46 : s46.length = s42.length + s6.length := by rw [h46]; simp
  have hg47 : s47.length = s46.length + 1 := by rw [h47]; simp
  have hg51 : s51.length = s47.length + s7.length := by rw [h51]; simp
  have hg58 : s58.length = s51.length + 1 := by rw [h58]; simp
  have hg62 : s62.length = s58.length + s8.length := by rw [h62]; simp
  have hg63 : s63.length = s62.length + 1 := by rw [h63]; simp
  have hg67 : s67.length = s63.length + rp.length := by rw [h67]; simp
  have HS24 : Hid (s1 ++ [32] = s24) := h24.symm
  have HS28 : Hid (s24 ++ s2 = s28) := h28.symm
  have HS29 : Hid (s28 ++ [32] = s29) := h29.symm
  have HS31 : Hid (s29 ++ sw = s31) := h31.symm
  have HS32 : Hid (s31 ++ [32] = s32) := h32.symm
  have HS36 : Hid (s32 ++ s4 = s36) := h36.symm
  have HS37 : Hid (s36 ++ [32] = s37) := h37.symm
  have HS41 : Hid (s37 ++ s5 = s41) := h41.symm
  have HS42 : Hid (s41 ++ [32] = s42) := h42.symm
  have HS46 : Hid (s42 ++ s6 = s46) := h46.symm
  have HS47 : Hid (s46 ++ [32] = s47) := h47.symm
  have HS51 : Hid (s47 ++ s7 = s51) := h51.symm
  have HS58 : Hid (s51 ++ [32] = s58) := h58.symm
  have HS62 : Hid (s58 ++ s8 = s62) := h62.symm
  have HS63 : Hid (s62 ++ [32] = s63) := h63.symm
  have HS67 : Hid (s63 ++ rp = s67) := h67.symm
  have HE0 : Hid (back = 0 → ol = s51 ++ [32, 111, 112, 101, 110]) := fun h => by rw [HO.out, (HA0.out h), h51, h47, h46, h42, h41, h37, h36, h32, h31, h29, h28, h24]; simp
  have HE1' : Hid (back ≠ 0 → ol = s67) := fun h => by rw [HO.out, (HA1.out h), h67, h63, h62, h58, h51, h47, h46, h42, h41, h37, h36, h32, h31, h29, h28, h24]; simp
  clear h24 h28 h29 h31 h32 h36 h37 h41 h42 h46 h47 h51 h58 h62 h63 h67 HO HA0 HA1
  go_enter Tryz.func32, Tryz.ntmps32
  go_upto_region 3 with fail
  rw [HW2.out]
  clear HW2
  by_cases h1 : 1 ≤ kind
  case neg => as_aux_lemma =>
    obtain rfl : sw = [63] := by rw [hsw]; unfold wordOf; rw [if_neg (by omega)]
    clear hsw HS2 hl3
    go_upto_region 5 with fail
    refine wp_region_held_drew (S := OS w (#[.int .i64 client, .int .i64 seq, .int .i64 kind, .string ⟨key.toArray⟩, .string ⟨value.toArray⟩, .string ⟨old.toArray⟩, .int .i64 call, .int .i64 back, .int .i64 code, .string ⟨val.toArray⟩])) (by kernel_rfl) HS0.out (fun hHeld => ?_)
    refine wpAnyH_take (i := 0) (oi := { dst := some 21, op := Op.fieldAddr 72 (Operand.tmp 1) 0, type := 0, pos := "text.go:424", after := #[], guard := none }) (v := .pointer (some ⟨w.heap.size, 0, none⟩)) rfl (by kernel_rfl) (by kernel_rfl) (by kernel_rfl) (fun _ _ _ h => h) (Or.inl ⟨by rfl, ?h0⟩) hHeld ?_
    case h0 => intro wv hSw; (try dsimp only at hSw); kernel_rfl
    try simp only [Act.put, List.setIfInBounds_toArray, List.set_cons_zero, List.set_cons_succ]
    refine wpAnyH_take (i := 1) (oi := { dst := some 22, op := Op.load 3 (Operand.tmp 21), type := 3, pos := "text.go:424", after := #[{ on := 0, ground := Ground.data }], guard := none }) (v := .int .i64 client) rfl (by kernel_rfl) (by kernel_rfl) (by kernel_rfl) (fun _ _ _ h => h) (Or.inl ⟨by rfl, ?h1⟩) hHeld ?_
    case h1 => intro wv hSw; (try dsimp only at hSw); have hc : wv.cell? ⟨w.heap.size, 0, none⟩ = some (.int .i64 client) := (by have h0 := hSw.x; simp only [World.cell?, h0]; rfl); go_simp; try with_reducible rfl
    try simp only [Act.put, List.setIfInBounds_toArray, List.set_cons_zero, List.set_cons_succ]
    refine wpAnyH_take (i := 4) (oi := { dst := some 25, op := Op.fieldAddr 72 (Operand.tmp 1) 1, type := 0, pos := "text.go:424", after := #[], guard := none }) (v := .pointer (some ⟨w.heap.size, 1, none⟩)) rfl (by kernel_rfl) (by kernel_rfl) (by kernel_rfl) (fun _ _ _ h => h) (Or.inl ⟨by rfl, ?h4⟩) hHeld ?_
    case h4 => intro wv hSw; (try dsimp only at hSw); kernel_rfl
    try simp only [Act.put, List.setIfInBounds_toArray, List.set_cons_zero, List.set_cons_succ]
    refine wpAnyH_take (i := 5) (oi := { dst := some 26, op := Op.load 3 (Operand.tmp 25), type := 3, pos := "text.go:424", after := #[{ on := 4, ground := Ground.data }], guard := none }) (v := .int .i64 seq) rfl (by kernel_rfl) (by kernel_rfl) (by kernel_rfl) (fun _ _ _ h => h) (Or.inl ⟨by rfl, ?h5⟩) hHeld ?_
    case h5 => intro wv hSw; (try dsimp only at hSw); have hc : wv.cell? ⟨w.heap.size, 1, none⟩ = some (.int .i64 seq) := (by have h0 := hSw.x; simp only [World.cell?, h0]; rfl); go_simp; try with_reducible rfl
    try simp only [Act.put, List.setIfInBounds_toArray, List.set_cons_zero, List.set_cons_succ]
    refine wpAnyH_take (i := 9) (oi := { dst := some 30, op := Op.move (Operand.tmp 4), type := 9, pos := "text.go:424", after := #[], guard := none }) (v := .string ⟨#[63]⟩) rfl (by kernel_rfl) (by kernel_rfl) (by kernel_rfl) (fun _ _ _ h => h) (Or.inl ⟨by rfl, ?h9⟩) hHeld ?_
    case h9 => intro wv hSw; (try dsimp only at hSw); kernel_rfl
    try simp only [Act.put, List.setIfInBounds_toArray, List.set_cons_zero, List.set_cons_succ]
    refine wpAnyH_take (i := 12) (oi := { dst := some 33, op := Op.fieldAddr 72 (Operand.tmp 1) 3, type := 0, pos := "text.go:424", after := #[], guard := none }) (v := .pointer (some ⟨w.heap.size, 3, none⟩)) rfl (by kernel_rfl) (by kernel_rfl) (by kernel_rfl) (fun _ _ _ h => h) (Or.inl ⟨by rfl, ?h12⟩) hHeld ?_
    case h12 => intro wv hSw; (try dsimp only at hSw); kernel_rfl
    try simp only [Act.put, List.setIfInBounds_toArray, List.set_cons_zero, List.set_cons_succ]
    refine wpAnyH_take (i := 13) (oi := { dst := some 34, op := Op.load 9 (Operand.tmp 33), type := 9, pos := "text.go:424", after := #[{ on := 12, ground := Ground.data }], guard := none }) (v := .string ⟨key.toArray⟩) rfl (by kernel_rfl) (by kernel_rfl) (by kernel_rfl) (fun _ _ _ h => h) (Or.inl ⟨by rfl, ?h13⟩) hHeld ?_
    case h13 => intro wv hSw; (try dsimp only at hSw); have hc : wv.cell? ⟨w.heap.size, 3, none⟩ = some (.string ⟨key.toArray⟩) := (by have h0 := hSw.x; simp only [World.cell?, h0]; rfl); go_simp; try with_reducible rfl
    try simp only [Act.put, List.setIfInBounds_toArray, List.set_cons_zero, List.set_cons_succ]
    refine wpAnyH_take (i := 17) (oi := { dst := some 38, op := Op.fieldAddr 72 (Operand.tmp 1) 4, type := 0, pos := "text.go:424", after := #[], guard := none }) (v := .pointer (some ⟨w.heap.size, 4, none⟩)) rfl (by kernel_rfl) (by kernel_rfl) (by kernel_rfl) (fun _ _ _ h => h) (Or.inl ⟨by rfl, ?h17⟩) hHeld ?_
    case h17 => intro wv hSw; (try dsimp only at hSw); kernel_rfl
    try simp only [Act.put, List.setIfInBounds_toArray, List.set_cons_zero, List.set_cons_succ]
    refine wpAnyH_take (i := 18) (oi := { dst := some 39, op := Op.load 9 (Operand.tmp 38), type := 9, pos := "text.go:424", after := #[{ on := 17, ground := Ground.data }], guard := none }) (v := .string ⟨value.toArray⟩) rfl (by kernel_rfl) (by kernel_rfl) (by kernel_rfl) (fun _ _ _ h => h) (Or.inl ⟨by rfl, ?h18⟩) hHeld ?_
    case h18 => intro wv hSw; (try dsimp only at hSw); have hc : wv.cell? ⟨w.heap.size, 4, none⟩ = some (.string ⟨value.toArray⟩) := (by have h0 := hSw.x; simp only [World.cell?, h0]; rfl); go_simp; try with_reducible rfl
    try simp only [Act.put, List.setIfInBounds_toArray, List.set_cons_zero, List.set_cons_succ]
    refine wpAnyH_take (i := 22) (oi := { dst := some 43, op := Op.fieldAddr 72 (Operand.tmp 1) 5, type := 0, pos := "text.go:424", after := #[], guard := none }) (v := .pointer (some ⟨w.heap.size, 5, none⟩)) rfl (by kernel_rfl) (by kernel_rfl) (by kernel_rfl) (fun _ _ _ h => h) (Or.inl ⟨by rfl, ?h22⟩) hHeld ?_
    case h22 => intro wv hSw; (try dsimp only at hSw); kernel_rfl
    try simp only [Act.put, List.setIfInBounds_toArray, List.set_cons_zero, List.set_cons_succ]
    refine wpAnyH_take (i := 23) (oi := { dst := some 44, op := Op.load 9 (Operand.tmp 43), type := 9, pos := "text.go:424", after := #[{ on := 22, ground := Ground.data }], guard := none }) (v := .string ⟨old.toArray⟩) rfl (by kernel_rfl) (by kernel_rfl) (by kernel_rfl) (fun _ _ _ h => h) (Or.inl ⟨by rfl, ?h23⟩) hHeld ?_
    case h23 => intro wv hSw; (try dsimp only at hSw); have hc : wv.cell? ⟨w.heap.size, 5, none⟩ = some (.string ⟨old.toArray⟩) := (by have h0 := hSw.x; simp only [World.cell?, h0]; rfl); go_simp; try with_reducible rfl
    try simp only [Act.put, List.setIfInBounds_toArray, List.set_cons_zero, List.set_cons_succ]
    refine wpAnyH_take (i := 27) (oi := { dst := some 48, op := Op.fieldAddr 72 (Operand.tmp 1) 6, type := 0, pos := "text.go:424", after := #[], guard := none }) (v := .pointer (some ⟨w.heap.size, 6, none⟩)) rfl (by kernel_rfl) (by kernel_rfl) (by kernel_rfl) (fun _ _ _ h => h) (Or.inl ⟨by rfl, ?h27⟩) hHeld ?_
    case h27 => intro wv hSw; (try dsimp only at hSw); kernel_rfl
    try simp only [Act.put, List.setIfInBounds_toArray, List.set_cons_zero, List.set_cons_succ]
    refine wpAnyH_take (i := 28) (oi := { dst := some 49, op := Op.load 3 (Operand.tmp 48), type := 3, pos := "text.go:424", after := #[{ on := 27, ground := Ground.data }], guard := none }) (v := .int .i64 call) rfl (by kernel_rfl) (by kernel_rfl) (by kernel_rfl) (fun _ _ _ h => h) (Or.inl ⟨by rfl, ?h28⟩) hHeld ?_
    case h28 => intro wv hSw; (try dsimp only at hSw); have hc : wv.cell? ⟨w.heap.size, 6, none⟩ = some (.int .i64 call) := (by have h0 := hSw.x; simp only [World.cell?, h0]; rfl); go_simp; try with_reducible rfl
    try simp only [Act.put, List.setIfInBounds_toArray, List.set_cons_zero, List.set_cons_succ]
    refine wpAnyH_ready (rs := [2]) (by kernel_rfl) (by simp) ?_
    refine AllReadyH.cons (o := { dst := some 23, op := Op.call { callee := Callee.value (Operand.func 58), args := #[Operand.tmp 22], argTypes := #[3] }, type := 9, pos := "text.go:424", after := #[{ on := 1, ground := Ground.data }], guard := none }) rfl (fun KK hK => ?_) ?_
    · go_simp
      go_wp2_with (go_at_call 58; refine (HI1.out _ hHeld.bel).mono ?_; rintro r v8 ⟨rfl, hB8⟩)
      have hT8 := hHeld.below hB8
      clear hHeld hB8
      refine hK.out _ _ hT8 (fun hHeld => ?_)
      clear hK hT8
      refine wpAnyH_take (i := 3) (oi := { dst := some 24, op := Op.binOp BinOp.add 9 (Operand.tmp 23) (Operand.const (Value.string { data := #[32] })) 9, type := 9, pos := "text.go:424", after := #[{ on := 2, ground := Ground.data }], guard := none }) (v := .string ⟨s24.toArray⟩) rfl (by kernel_rfl) (by kernel_rfl) (by kernel_rfl) (fun _ _ _ h => h) (Or.inl ⟨by rfl, ?h3⟩) hHeld ?_
      case h3 => intro wv hSw; (try dsimp only at hSw); go_simp; first | (rw [if_neg (by omega), cat2, HS24.out]) | (rw [cat2, HS24.out]) | (rw [if_neg (by simp only [List.length_toArray, List.size_toArray, ByteArray.size]; omega), cat2, HS24.out]) | (trace_state; sorry)
      try simp only [Act.put, List.setIfInBounds_toArray, List.set_cons_zero, List.set_cons_succ]
      refine wpAnyH_ready (rs := [6]) (by kernel_rfl) (by simp) ?_
      refine AllReadyH.cons (o := { dst := some 27, op := Op.call { callee := Callee.value (Operand.func 58), args := #[Operand.tmp 26], argTypes := #[3] }, type := 9, pos := "text.go:424", after := #[{ on := 5, ground := Ground.data }, { on := 2, ground := Ground.chain }], guard := none }) rfl (fun KK hK => ?_) ?_
      · go_simp
        go_wp2_with (go_at_call 58; refine (HI2.out _ hHeld.bel).mono ?_; rintro r v7 ⟨rfl, hB7⟩)
        have hT7 := hHeld.below hB7
        clear hHeld hB7
        refine hK.out _ _ hT7 (fun hHeld => ?_)
        clear hK hT7
        refine wpAnyH_take (i := 7) (oi := { dst := some 28, op := Op.binOp BinOp.add 9 (Operand.tmp 24) (Operand.tmp 27) 9, type := 9, pos := "text.go:424", after := #[{ on := 3, ground := Ground.data }, { on := 6, ground := Ground.data }], guard := none }) (v := .string ⟨s28.toArray⟩) rfl (by kernel_rfl) (by kernel_rfl) (by kernel_rfl) (fun _ _ _ h => h) (Or.inl ⟨by rfl, ?h7⟩) hHeld ?_
        case h7 => intro wv hSw; (try dsimp only at hSw); go_simp; first | (rw [if_neg (by omega), cat2, HS28.out]) | (rw [cat2, HS28.out]) | (rw [if_neg (by simp only [List.length_toArray, List.size_toArray, ByteArray.size]; omega), cat2, HS28.out]) | (trace_state; sorry)
        try simp only [Act.put, List.setIfInBounds_toArray, List.set_cons_zero, List.set_cons_succ]
        refine wpAnyH_take (i := 8) (oi := { dst := some 29, op := Op.binOp BinOp.add 9 (Operand.tmp 28) (Operand.const (Value.string { data := #[32] })) 9, type := 9, pos := "text.go:424", after := #[{ on := 7, ground := Ground.data }], guard := none }) (v := .string ⟨s29.toArray⟩) rfl (by kernel_rfl) (by kernel_rfl) (by kernel_rfl) (fun _ _ _ h => h) (Or.inl ⟨by rfl, ?h8⟩) hHeld ?_
        case h8 => intro wv hSw; (try dsimp only at hSw); go_simp; first | (rw [if_neg (by omega), cat2, HS29.out]) | (rw [cat2, HS29.out]) | (rw [if_neg (by simp only [List.length_toArray, List.size_toArray, ByteArray.size]; omega), cat2, HS29.out]) | (trace_state; sorry)
        try simp only [Act.put, List.setIfInBounds_toArray, List.set_cons_zero, List.set_cons_succ]
        refine wpAnyH_take (i := 10) (oi := { dst := some 31, op := Op.binOp BinOp.add 9 (Operand.tmp 29) (Operand.tmp 30) 9, type := 9, pos := "text.go:424", after := #[{ on := 8, ground := Ground.data }, { on := 9, ground := Ground.data }], guard := none }) (v := .string ⟨s31.toArray⟩) rfl (by kernel_rfl) (by kernel_rfl) (by kernel_rfl) (fun _ _ _ h => h) (Or.inl ⟨by rfl, ?h10⟩) hHeld ?_
        case h10 => intro wv hSw; (try dsimp only at hSw); go_simp; first | (rw [if_neg (by omega), cat2, HS31.out]) | (rw [cat2, HS31.out]) | (rw [if_neg (by simp only [List.length_toArray, List.size_toArray, ByteArray.size]; omega), cat2, HS31.out]) | (trace_state; sorry)
        try simp only [Act.put, List.setIfInBounds_toArray, List.set_cons_zero, List.set_cons_succ]
        refine wpAnyH_take (i := 11) (oi := { dst := some 32, op := Op.binOp BinOp.add 9 (Operand.tmp 31) (Operand.const (Value.string { data := #[32] })) 9, type := 9, pos := "text.go:424", after := #[{ on := 10, ground := Ground.data }], guard := none }) (v := .string ⟨s32.toArray⟩) rfl (by kernel_rfl) (by kernel_rfl) (by kernel_rfl) (fun _ _ _ h => h) (Or.inl ⟨by rfl, ?h11⟩) hHeld ?_
        case h11 => intro wv hSw; (try dsimp only at hSw); go_simp; first | (rw [if_neg (by omega), cat2, HS32.out]) | (rw [cat2, HS32.out]) | (rw [if_neg (by simp only [List.length_toArray, List.size_toArray, ByteArray.size]; omega), cat2, HS32.out]) | (trace_state; sorry)
        try simp only [Act.put, List.setIfInBounds_toArray, List.set_cons_zero, List.set_cons_succ]
        refine wpAnyH_ready (rs := [14]) (by kernel_rfl) (by simp) ?_
        refine AllReadyH.cons (o := { dst := some 35, op := Op.call { callee := Callee.value (Operand.func 13), args := #[Operand.tmp 34], argTypes := #[9] }, type := 9, pos := "text.go:424", after := #[{ on := 13, ground := Ground.data }, { on := 6, ground := Ground.chain }], guard := none }) rfl (fun KK hK => ?_) ?_
        · go_simp
          go_wp2_with (go_at_call 13; refine (HQ4.out _).mono ?_; rintro r v6 ⟨rfl, hB6⟩)
          have hT6 := hHeld.below hB6
          clear hHeld hB6
          refine hK.out _ _ hT6 (fun hHeld => ?_)
          clear hK hT6
          refine wpAnyH_take (i := 15) (oi := { dst := some 36, op := Op.binOp BinOp.add 9 (Operand.tmp 32) (Operand.tmp 35) 9, type := 9, pos := "text.go:424", after := #[{ on := 11, ground := Ground.data }, { on := 14, ground := Ground.data }], guard := none }) (v := .string ⟨s36.toArray⟩) rfl (by kernel_rfl) (by kernel_rfl) (by kernel_rfl) (fun _ _ _ h => h) (Or.inl ⟨by rfl, ?h15⟩) hHeld ?_
          case h15 => intro wv hSw; (try dsimp only at hSw); go_simp; first | (rw [if_neg (by omega), cat2, HS36.out]) | (rw [cat2, HS36.out]) | (rw [if_neg (by simp only [List.length_toArray, List.size_toArray, ByteArray.size]; omega), cat2, HS36.out]) | (trace_state; sorry)
          try simp only [Act.put, List.setIfInBounds_toArray, List.set_cons_zero, List.set_cons_succ]
          refine wpAnyH_take (i := 16) (oi := { dst := some 37, op := Op.binOp BinOp.add 9 (Operand.tmp 36) (Operand.const (Value.string { data := #[32] })) 9, type := 9, pos := "text.go:424", after := #[{ on := 15, ground := Ground.data }], guard := none }) (v := .string ⟨s37.toArray⟩) rfl (by kernel_rfl) (by kernel_rfl) (by kernel_rfl) (fun _ _ _ h => h) (Or.inl ⟨by rfl, ?h16⟩) hHeld ?_
          case h16 => intro wv hSw; (try dsimp only at hSw); go_simp; first | (rw [if_neg (by omega), cat2, HS37.out]) | (rw [cat2, HS37.out]) | (rw [if_neg (by simp only [List.length_toArray, List.size_toArray, ByteArray.size]; omega), cat2, HS37.out]) | (trace_state; sorry)
          try simp only [Act.put, List.setIfInBounds_toArray, List.set_cons_zero, List.set_cons_succ]
          refine wpAnyH_ready (rs := [19]) (by kernel_rfl) (by simp) ?_
          refine AllReadyH.cons (o := { dst := some 40, op := Op.call { callee := Callee.value (Operand.func 13), args := #[Operand.tmp 39], argTypes := #[9] }, type := 9, pos := "text.go:424", after := #[{ on := 18, ground := Ground.data }, { on := 14, ground := Ground.chain }], guard := none }) rfl (fun KK hK => ?_) ?_
          · go_simp
            go_wp2_with (go_at_call 13; refine (HQ5.out _).mono ?_; rintro r v5 ⟨rfl, hB5⟩)
            have hT5 := hHeld.below hB5
            clear hHeld hB5
            refine hK.out _ _ hT5 (fun hHeld => ?_)
            clear hK hT5
            refine wpAnyH_take (i := 20) (oi := { dst := some 41, op := Op.binOp BinOp.add 9 (Operand.tmp 37) (Operand.tmp 40) 9, type := 9, pos := "text.go:424", after := #[{ on := 16, ground := Ground.data }, { on := 19, ground := Ground.data }], guard := none }) (v := .string ⟨s41.toArray⟩) rfl (by kernel_rfl) (by kernel_rfl) (by kernel_rfl) (fun _ _ _ h => h) (Or.inl ⟨by rfl, ?h20⟩) hHeld ?_
            case h20 => intro wv hSw; (try dsimp only at hSw); go_simp; first | (rw [if_neg (by omega), cat2, HS41.out]) | (rw [cat2, HS41.out]) | (rw [if_neg (by simp only [List.length_toArray, List.size_toArray, ByteArray.size]; omega), cat2, HS41.out]) | (trace_state; sorry)
            try simp only [Act.put, List.setIfInBounds_toArray, List.set_cons_zero, List.set_cons_succ]
            refine wpAnyH_take (i := 21) (oi := { dst := some 42, op := Op.binOp BinOp.add 9 (Operand.tmp 41) (Operand.const (Value.string { data := #[32] })) 9, type := 9, pos := "text.go:424", after := #[{ on := 20, ground := Ground.data }], guard := none }) (v := .string ⟨s42.toArray⟩) rfl (by kernel_rfl) (by kernel_rfl) (by kernel_rfl) (fun _ _ _ h => h) (Or.inl ⟨by rfl, ?h21⟩) hHeld ?_
            case h21 => intro wv hSw; (try dsimp only at hSw); go_simp; first | (rw [if_neg (by omega), cat2, HS42.out]) | (rw [cat2, HS42.out]) | (rw [if_neg (by simp only [List.length_toArray, List.size_toArray, ByteArray.size]; omega), cat2, HS42.out]) | (trace_state; sorry)
            try simp only [Act.put, List.setIfInBounds_toArray, List.set_cons_zero, List.set_cons_succ]
            refine wpAnyH_ready (rs := [24]) (by kernel_rfl) (by simp) ?_
            refine AllReadyH.cons (o := { dst := some 45, op := Op.call { callee := Callee.value (Operand.func 13), args := #[Operand.tmp 44], argTypes := #[9] }, type := 9, pos := "text.go:424", after := #[{ on := 23, ground := Ground.data }, { on := 19, ground := Ground.chain }], guard := none }) rfl (fun KK hK => ?_) ?_
            · go_simp
              go_wp2_with (go_at_call 13; refine (HQ6.out _).mono ?_; rintro r v4 ⟨rfl, hB4⟩)
              have hT4 := hHeld.below hB4
              clear hHeld hB4
              refine hK.out _ _ hT4 (fun hHeld => ?_)
              clear hK hT4
              refine wpAnyH_take (i := 25) (oi := { dst := some 46, op := Op.binOp BinOp.add 9 (Operand.tmp 42) (Operand.tmp 45) 9, type := 9, pos := "text.go:424", after := #[{ on := 21, ground := Ground.data }, { on := 24, ground := Ground.data }], guard := none }) (v := .string ⟨s46.toArray⟩) rfl (by kernel_rfl) (by kernel_rfl) (by kernel_rfl) (fun _ _ _ h => h) (Or.inl ⟨by rfl, ?h25⟩) hHeld ?_
              case h25 => intro wv hSw; (try dsimp only at hSw); go_simp; first | (rw [if_neg (by omega), cat2, HS46.out]) | (rw [cat2, HS46.out]) | (rw [if_neg (by simp only [List.length_toArray, List.size_toArray, ByteArray.size]; omega), cat2, HS46.out]) | (trace_state; sorry)
              try simp only [Act.put, List.setIfInBounds_toArray, List.set_cons_zero, List.set_cons_succ]
              refine wpAnyH_take (i := 26) (oi := { dst := some 47, op := Op.binOp BinOp.add 9 (Operand.tmp 46) (Operand.const (Value.string { data := #[32] })) 9, type := 9, pos := "text.go:424", after := #[{ on := 25, ground := Ground.data }], guard := none }) (v := .string ⟨s47.toArray⟩) rfl (by kernel_rfl) (by kernel_rfl) (by kernel_rfl) (fun _ _ _ h => h) (Or.inl ⟨by rfl, ?h26⟩) hHeld ?_
              case h26 => intro wv hSw; (try dsimp only at hSw); go_simp; first | (rw [if_neg (by omega), cat2, HS47.out]) | (rw [cat2, HS47.out]) | (rw [if_neg (by simp only [List.length_toArray, List.size_toArray, ByteArray.size]; omega), cat2, HS47.out]) | (trace_state; sorry)
              try simp only [Act.put, List.setIfInBounds_toArray, List.set_cons_zero, List.set_cons_succ]
              refine wpAnyH_ready (rs := [29]) (by kernel_rfl) (by simp) ?_
              refine AllReadyH.cons (o := { dst := some 50, op := Op.call { callee := Callee.value (Operand.func 58), args := #[Operand.tmp 49], argTypes := #[3] }, type := 9, pos := "text.go:424", after := #[{ on := 28, ground := Ground.data }, { on := 24, ground := Ground.chain }], guard := none }) rfl (fun KK hK => ?_) ?_
              · go_simp
                go_wp2_with (go_at_call 58; refine (HI7.out _ hHeld.bel).mono ?_; rintro r v3 ⟨rfl, hB3⟩)
                have hT3 := hHeld.below hB3
                clear hHeld hB3
                refine hK.out _ _ hT3 (fun hHeld => ?_)
                clear hK hT3
                refine wpAnyH_take (i := 30) (oi := { dst := some 51, op := Op.binOp BinOp.add 9 (Operand.tmp 47) (Operand.tmp 50) 9, type := 9, pos := "text.go:424", after := #[{ on := 26, ground := Ground.data }, { on := 29, ground := Ground.data }], guard := none }) (v := .string ⟨s51.toArray⟩) rfl (by kernel_rfl) (by kernel_rfl) (by kernel_rfl) (fun _ _ _ h => h) (Or.inl ⟨by rfl, ?h30⟩) hHeld ?_
                case h30 => intro wv hSw; (try dsimp only at hSw); go_simp; first | (rw [if_neg (by omega), cat2, HS51.out]) | (rw [cat2, HS51.out]) | (rw [if_neg (by simp only [List.length_toArray, List.size_toArray, ByteArray.size]; omega), cat2, HS51.out]) | (trace_state; sorry)
                try simp only [Act.put, List.setIfInBounds_toArray, List.set_cons_zero, List.set_cons_succ]
                refine wpAnyH_take (i := 31) (oi := { dst := some 5, op := Op.assign (Operand.tmp 51), type := 9, pos := "text.go:424", after := #[{ on := 30, ground := Ground.data }, { on := 29, ground := Ground.chain }, { on := 0, ground := Ground.phase }, { on := 1, ground := Ground.phase }, { on := 2, ground := Ground.phase }, { on := 3, ground := Ground.phase }, { on := 4, ground := Ground.phase }, { on := 5, ground := Ground.phase }, { on := 6, ground := Ground.phase }, { on := 7, ground := Ground.phase }, { on := 8, ground := Ground.phase }, { on := 9, ground := Ground.phase }, { on := 10, ground := Ground.phase }, { on := 11, ground := Ground.phase }, { on := 12, ground := Ground.phase }, { on := 13, ground := Ground.phase }, { on := 14, ground := Ground.phase }, { on := 15, ground := Ground.phase }, { on := 16, ground := Ground.phase }, { on := 17, ground := Ground.phase }, { on := 18, ground := Ground.phase }, { on := 19, ground := Ground.phase }, { on := 20, ground := Ground.phase }, { on := 21, ground := Ground.phase }, { on := 22, ground := Ground.phase }, { on := 23, ground := Ground.phase }, { on := 24, ground := Ground.phase }, { on := 25, ground := Ground.phase }, { on := 26, ground := Ground.phase }, { on := 27, ground := Ground.phase }, { on := 28, ground := Ground.phase }, { on := 29, ground := Ground.phase }, { on := 30, ground := Ground.phase }], guard := none }) (v := .string ⟨s51.toArray⟩) rfl (by kernel_rfl) (by kernel_rfl) (by kernel_rfl) (fun _ _ _ h => h) (Or.inl ⟨by rfl, ?h31⟩) hHeld ?_
                case h31 => intro wv hSw; (try dsimp only at hSw); kernel_rfl
                try simp only [Act.put, List.setIfInBounds_toArray, List.set_cons_zero, List.set_cons_succ]
                refine wpAnyH_done (by kernel_rfl) ?_ _
                obtain ⟨v9, hv9⟩ : ∃ v9, v9 = v3 := ⟨_, rfl⟩
                rw [← hv9] at hHeld ⊢
                clear hv9
                have e7 : v9.cell? ⟨w.heap.size, 7, none⟩ = some (.int .i64 back) := (by have h0 := hHeld.x; simp only [World.cell?, h0]; rfl)
                have HH := hHeld
                by_cases h0 : back = 0
                · have HE0' := HE0.out h0
                  have HE : Hid (ol = s51 ++ [32, 111, 112, 101, 110]) := HE0'
                  subst h0
                  have hcat := cat2 s51 [32, 111, 112, 101, 110]
                  go_wp2
                  go_ret
                  exact ⟨by first | rfl | (rw [HE.out]; rfl) | exact congrArg _ hcat | (simp; done) | (trace_state; sorry), HH.bel⟩
                · have HE1 : Hid (ol = s67) := HE1'.out h0
                  go_upto_region 8 with fail
                  refine wp_region_held_drew (S := OS w (#[.int .i64 client, .int .i64 seq, .int .i64 kind, .string ⟨key.toArray⟩, .string ⟨value.toArray⟩, .string ⟨old.toArray⟩, .int .i64 call, .int .i64 back, .int .i64 code, .string ⟨val.toArray⟩])) (by kernel_rfl) (HH.below (Below.refl _ _).drew) (fun hHeld => ?_)
                  refine wpAnyH_take (i := 0) (oi := { dst := some 57, op := Op.move (Operand.tmp 5), type := 9, pos := "text.go:428", after := #[], guard := none }) (v := .string ⟨s51.toArray⟩) rfl (by kernel_rfl) (by kernel_rfl) (by kernel_rfl) (fun _ _ _ h => h) (Or.inl ⟨by rfl, ?h0⟩) hHeld ?_
                  case h0 => intro wv hSw; (try dsimp only at hSw); kernel_rfl
                  try simp only [Act.put, List.setIfInBounds_toArray, List.set_cons_zero, List.set_cons_succ]
                  refine wpAnyH_take (i := 1) (oi := { dst := some 58, op := Op.binOp BinOp.add 9 (Operand.tmp 57) (Operand.const (Value.string { data := #[32] })) 9, type := 9, pos := "text.go:428", after := #[{ on := 0, ground := Ground.data }], guard := none }) (v := .string ⟨s58.toArray⟩) rfl (by kernel_rfl) (by kernel_rfl) (by kernel_rfl) (fun _ _ _ h => h) (Or.inl ⟨by rfl, ?h1⟩) hHeld ?_
                  case h1 => intro wv hSw; (try dsimp only at hSw); go_simp; first | (rw [if_neg (by omega), cat2, HS58.out]) | (rw [cat2, HS58.out]) | (rw [if_neg (by simp only [List.length_toArray, List.size_toArray, ByteArray.size]; omega), cat2, HS58.out]) | (trace_state; sorry)
                  try simp only [Act.put, List.setIfInBounds_toArray, List.set_cons_zero, List.set_cons_succ]
                  refine wpAnyH_take (i := 2) (oi := { dst := some 59, op := Op.fieldAddr 72 (Operand.tmp 1) 7, type := 0, pos := "text.go:428", after := #[], guard := none }) (v := .pointer (some ⟨w.heap.size, 7, none⟩)) rfl (by kernel_rfl) (by kernel_rfl) (by kernel_rfl) (fun _ _ _ h => h) (Or.inl ⟨by rfl, ?h2⟩) hHeld ?_
                  case h2 => intro wv hSw; (try dsimp only at hSw); kernel_rfl
                  try simp only [Act.put, List.setIfInBounds_toArray, List.set_cons_zero, List.set_cons_succ]
                  refine wpAnyH_take (i := 3) (oi := { dst := some 60, op := Op.load 3 (Operand.tmp 59), type := 3, pos := "text.go:428", after := #[{ on := 2, ground := Ground.data }], guard := none }) (v := .int .i64 back) rfl (by kernel_rfl) (by kernel_rfl) (by kernel_rfl) (fun _ _ _ h => h) (Or.inl ⟨by rfl, ?h3⟩) hHeld ?_
                  case h3 => intro wv hSw; (try dsimp only at hSw); have hc : wv.cell? ⟨w.heap.size, 7, none⟩ = some (.int .i64 back) := (by have h0 := hSw.x; simp only [World.cell?, h0]; rfl); go_simp; try with_reducible rfl
                  try simp only [Act.put, List.setIfInBounds_toArray, List.set_cons_zero, List.set_cons_succ]
                  refine wpAnyH_take (i := 7) (oi := { dst := some 64, op := Op.fieldAddr 72 (Operand.tmp 1) 8, type := 0, pos := "text.go:428", after := #[], guard := none }) (v := .pointer (some ⟨w.heap.size, 8, none⟩)) rfl (by kernel_rfl) (by kernel_rfl) (by kernel_rfl) (fun _ _ _ h => h) (Or.inl ⟨by rfl, ?h7⟩) hHeld ?_
                  case h7 => intro wv hSw; (try dsimp only at hSw); kernel_rfl
                  try simp only [Act.put, List.setIfInBounds_toArray, List.set_cons_zero, List.set_cons_succ]
                  refine wpAnyH_take (i := 8) (oi := { dst := some 65, op := Op.load 70 (Operand.tmp 64), type := 70, pos := "text.go:428", after := #[{ on := 7, ground := Ground.data }], guard := none }) (v := .agg #[.int .i64 code, .string ⟨val.toArray⟩]) rfl (by kernel_rfl) (by kernel_rfl) (by kernel_rfl) (fun _ _ _ h => h) (Or.inl ⟨by rfl, ?h8⟩) hHeld ?_
                  case h8 => intro wv hSw; (try dsimp only at hSw); exact load_midF rfl (by kernel_rfl) (run_loadVar_mid (P := Tryz.prog) _ w.heap.size 8 70 [.int .i64 code, .string ⟨val.toArray⟩] _ (range_ofF hSw.x rfl) Tryz.underlying70 rfl (by kernel_rfl))
                  try simp only [Act.put, List.setIfInBounds_toArray, List.set_cons_zero, List.set_cons_succ]
                  refine wpAnyH_ready (rs := [4]) (by kernel_rfl) (by simp) ?_
                  refine AllReadyH.cons (o := { dst := some 61, op := Op.call { callee := Callee.value (Operand.func 58), args := #[Operand.tmp 60], argTypes := #[3] }, type := 9, pos := "text.go:428", after := #[{ on := 3, ground := Ground.data }], guard := none }) rfl (fun KK hK => ?_) ?_
                  · go_simp
                    go_wp2_with (go_at_call 58; refine (HI8.out h0 _ hHeld.bel).mono ?_; rintro r v2 ⟨rfl, hB2⟩)
                    have hT2 := hHeld.below hB2
                    clear hHeld hB2
                    refine hK.out _ _ hT2 (fun hHeld => ?_)
                    clear hK hT2
                    refine wpAnyH_take (i := 5) (oi := { dst := some 62, op := Op.binOp BinOp.add 9 (Operand.tmp 58) (Operand.tmp 61) 9, type := 9, pos := "text.go:428", after := #[{ on := 1, ground := Ground.data }, { on := 4, ground := Ground.data }], guard := none }) (v := .string ⟨s62.toArray⟩) rfl (by kernel_rfl) (by kernel_rfl) (by kernel_rfl) (fun _ _ _ h => h) (Or.inl ⟨by rfl, ?h5⟩) hHeld ?_
                    case h5 => intro wv hSw; (try dsimp only at hSw); go_simp; first | (rw [if_neg (by omega), cat2, HS62.out]) | (rw [cat2, HS62.out]) | (rw [if_neg (by simp only [List.length_toArray, List.size_toArray, ByteArray.size]; omega), cat2, HS62.out]) | (trace_state; sorry)
                    try simp only [Act.put, List.setIfInBounds_toArray, List.set_cons_zero, List.set_cons_succ]
                    refine wpAnyH_take (i := 6) (oi := { dst := some 63, op := Op.binOp BinOp.add 9 (Operand.tmp 62) (Operand.const (Value.string { data := #[32] })) 9, type := 9, pos := "text.go:428", after := #[{ on := 5, ground := Ground.data }], guard := none }) (v := .string ⟨s63.toArray⟩) rfl (by kernel_rfl) (by kernel_rfl) (by kernel_rfl) (fun _ _ _ h => h) (Or.inl ⟨by rfl, ?h6⟩) hHeld ?_
                    case h6 => intro wv hSw; (try dsimp only at hSw); go_simp; first | (rw [if_neg (by omega), cat2, HS63.out]) | (rw [cat2, HS63.out]) | (rw [if_neg (by simp only [List.length_toArray, List.size_toArray, ByteArray.size]; omega), cat2, HS63.out]) | (trace_state; sorry)
                    try simp only [Act.put, List.setIfInBounds_toArray, List.set_cons_zero, List.set_cons_succ]
                    refine wpAnyH_ready (rs := [9]) (by kernel_rfl) (by simp) ?_
                    refine AllReadyH.cons (o := { dst := some 66, op := Op.call { callee := Callee.value (Operand.func 28), args := #[Operand.tmp 65], argTypes := #[70] }, type := 9, pos := "text.go:428", after := #[{ on := 8, ground := Ground.data }, { on := 4, ground := Ground.chain }], guard := none }) rfl (fun KK hK => ?_) ?_
                    · go_simp
                      go_wp2_with (go_at_call 28; refine (HRP.out _).mono ?_; rintro r v1 ⟨rfl, hB1⟩)
                      have hT1 := hHeld.below hB1
                      clear hHeld hB1
                      refine hK.out _ _ hT1 (fun hHeld => ?_)
                      clear hK hT1
                      refine wpAnyH_take (i := 10) (oi := { dst := some 67, op := Op.binOp BinOp.add 9 (Operand.tmp 63) (Operand.tmp 66) 9, type := 9, pos := "text.go:428", after := #[{ on := 6, ground := Ground.data }, { on := 9, ground := Ground.data }], guard := none }) (v := .string ⟨s67.toArray⟩) rfl (by kernel_rfl) (by kernel_rfl) (by kernel_rfl) (fun _ _ _ h => h) (Or.inl ⟨by rfl, ?h10⟩) hHeld ?_
                      case h10 => intro wv hSw; (try dsimp only at hSw); go_simp; first | (rw [if_neg (by omega), cat2, HS67.out]) | (rw [cat2, HS67.out]) | (rw [if_neg (by simp only [List.length_toArray, List.size_toArray, ByteArray.size]; omega), cat2, HS67.out]) | (trace_state; sorry)
                      try simp only [Act.put, List.setIfInBounds_toArray, List.set_cons_zero, List.set_cons_succ]
                      refine wpAnyH_take (i := 11) (oi := { dst := some 2, op := Op.assign (Operand.tmp 67), type := 9, pos := "text.go:428", after := #[{ on := 10, ground := Ground.data }, { on := 9, ground := Ground.chain }, { on := 0, ground := Ground.phase }, { on := 1, ground := Ground.phase }, { on := 2, ground := Ground.phase }, { on := 3, ground := Ground.phase }, { on := 4, ground := Ground.phase }, { on := 5, ground := Ground.phase }, { on := 6, ground := Ground.phase }, { on := 7, ground := Ground.phase }, { on := 8, ground := Ground.phase }, { on := 9, ground := Ground.phase }, { on := 10, ground := Ground.phase }], guard := none }) (v := .string ⟨s67.toArray⟩) rfl (by kernel_rfl) (by kernel_rfl) (by kernel_rfl) (fun _ _ _ h => h) (Or.inl ⟨by rfl, ?h11⟩) hHeld ?_
                      case h11 => intro wv hSw; (try dsimp only at hSw); kernel_rfl
                      try simp only [Act.put, List.setIfInBounds_toArray, List.set_cons_zero, List.set_cons_succ]
                      refine wpAnyH_done (by kernel_rfl) ?_ _
                      go_wp2
                      go_ret
                      exact ⟨by rw [HE1.out]; rfl, hHeld.bel⟩
                    exact AllReadyH.nil
                  exact AllReadyH.nil
              exact AllReadyH.nil
            exact AllReadyH.nil
          exact AllReadyH.nil
        exact AllReadyH.nil
      exact AllReadyH.nil
    exact AllReadyH.nil
  by_cases h2 : kind ≤ 4
  case neg => as_aux_lemma =>
    obtain rfl : sw = [63] := by rw [hsw]; unfold wordOf; rw [if_neg (by simp only [opsL, List.length_cons, List.length_nil]; omega)]
    clear hsw HS2 hl3
    go_upto_region 5 with fail
    refine wp_region_held_drew (S := OS w (#[.int .i64 client, .int .i64 seq, .int .i64 kind, .string ⟨key.toArray⟩, .string ⟨value.toArray⟩, .string ⟨old.toArray⟩, .int .i64 call, .int .i64 back, .int .i64 code, .string ⟨val.toArray⟩])) (by kernel_rfl) HS0.out (fun hHeld => ?_)
    refine wpAnyH_take (i := 0) (oi := { dst := some 21, op := Op.fieldAddr 72 (Operand.tmp 1) 0, type := 0, pos := "text.go:424", after := #[], guard := none }) (v := .pointer (some ⟨w.heap.size, 0, none⟩)) rfl (by kernel_rfl) (by kernel_rfl) (by kernel_rfl) (fun _ _ _ h => h) (Or.inl ⟨by rfl, ?h0⟩) hHeld ?_
    case h0 => intro wv hSw; (try dsimp only at hSw); kernel_rfl
    try simp only [Act.put, List.setIfInBounds_toArray, List.set_cons_zero, List.set_cons_succ]
    refine wpAnyH_take (i := 1) (oi := { dst := some 22, op := Op.load 3 (Operand.tmp 21), type := 3, pos := "text.go:424", after := #[{ on := 0, ground := Ground.data }], guard := none }) (v := .int .i64 client) rfl (by kernel_rfl) (by kernel_rfl) (by kernel_rfl) (fun _ _ _ h => h) (Or.inl ⟨by rfl, ?h1⟩) hHeld ?_
    case h1 => intro wv hSw; (try dsimp only at hSw); have hc : wv.cell? ⟨w.heap.size, 0, none⟩ = some (.int .i64 client) := (by have h0 := hSw.x; simp only [World.cell?, h0]; rfl); go_simp; try with_reducible rfl
    try simp only [Act.put, List.setIfInBounds_toArray, List.set_cons_zero, List.set_cons_succ]
    refine wpAnyH_take (i := 4) (oi := { dst := some 25, op := Op.fieldAddr 72 (Operand.tmp 1) 1, type := 0, pos := "text.go:424", after := #[], guard := none }) (v := .pointer (some ⟨w.heap.size, 1, none⟩)) rfl (by kernel_rfl) (by kernel_rfl) (by kernel_rfl) (fun _ _ _ h => h) (Or.inl ⟨by rfl, ?h4⟩) hHeld ?_
    case h4 => intro wv hSw; (try dsimp only at hSw); kernel_rfl
    try simp only [Act.put, List.setIfInBounds_toArray, List.set_cons_zero, List.set_cons_succ]
    refine wpAnyH_take (i := 5) (oi := { dst := some 26, op := Op.load 3 (Operand.tmp 25), type := 3, pos := "text.go:424", after := #[{ on := 4, ground := Ground.data }], guard := none }) (v := .int .i64 seq) rfl (by kernel_rfl) (by kernel_rfl) (by kernel_rfl) (fun _ _ _ h => h) (Or.inl ⟨by rfl, ?h5⟩) hHeld ?_
    case h5 => intro wv hSw; (try dsimp only at hSw); have hc : wv.cell? ⟨w.heap.size, 1, none⟩ = some (.int .i64 seq) := (by have h0 := hSw.x; simp only [World.cell?, h0]; rfl); go_simp; try with_reducible rfl
    try simp only [Act.put, List.setIfInBounds_toArray, List.set_cons_zero, List.set_cons_succ]
    refine wpAnyH_take (i := 9) (oi := { dst := some 30, op := Op.move (Operand.tmp 4), type := 9, pos := "text.go:424", after := #[], guard := none }) (v := .string ⟨#[63]⟩) rfl (by kernel_rfl) (by kernel_rfl) (by kernel_rfl) (fun _ _ _ h => h) (Or.inl ⟨by rfl, ?h9⟩) hHeld ?_
    case h9 => intro wv hSw; (try dsimp only at hSw); kernel_rfl
    try simp only [Act.put, List.setIfInBounds_toArray, List.set_cons_zero, List.set_cons_succ]
    refine wpAnyH_take (i := 12) (oi := { dst := some 33, op := Op.fieldAddr 72 (Operand.tmp 1) 3, type := 0, pos := "text.go:424", after := #[], guard := none }) (v := .pointer (some ⟨w.heap.size, 3, none⟩)) rfl (by kernel_rfl) (by kernel_rfl) (by kernel_rfl) (fun _ _ _ h => h) (Or.inl ⟨by rfl, ?h12⟩) hHeld ?_
    case h12 => intro wv hSw; (try dsimp only at hSw); kernel_rfl
    try simp only [Act.put, List.setIfInBounds_toArray, List.set_cons_zero, List.set_cons_succ]
    refine wpAnyH_take (i := 13) (oi := { dst := some 34, op := Op.load 9 (Operand.tmp 33), type := 9, pos := "text.go:424", after := #[{ on := 12, ground := Ground.data }], guard := none }) (v := .string ⟨key.toArray⟩) rfl (by kernel_rfl) (by kernel_rfl) (by kernel_rfl) (fun _ _ _ h => h) (Or.inl ⟨by rfl, ?h13⟩) hHeld ?_
    case h13 => intro wv hSw; (try dsimp only at hSw); have hc : wv.cell? ⟨w.heap.size, 3, none⟩ = some (.string ⟨key.toArray⟩) := (by have h0 := hSw.x; simp only [World.cell?, h0]; rfl); go_simp; try with_reducible rfl
    try simp only [Act.put, List.setIfInBounds_toArray, List.set_cons_zero, List.set_cons_succ]
    refine wpAnyH_take (i := 17) (oi := { dst := some 38, op := Op.fieldAddr 72 (Operand.tmp 1) 4, type := 0, pos := "text.go:424", after := #[], guard := none }) (v := .pointer (some ⟨w.heap.size, 4, none⟩)) rfl (by kernel_rfl) (by kernel_rfl) (by kernel_rfl) (fun _ _ _ h => h) (Or.inl ⟨by rfl, ?h17⟩) hHeld ?_
    case h17 => intro wv hSw; (try dsimp only at hSw); kernel_rfl
    try simp only [Act.put, List.setIfInBounds_toArray, List.set_cons_zero, List.set_cons_succ]
    refine wpAnyH_take (i := 18) (oi := { dst := some 39, op := Op.load 9 (Operand.tmp 38), type := 9, pos := "text.go:424", after := #[{ on := 17, ground := Ground.data }], guard := none }) (v := .string ⟨value.toArray⟩) rfl (by kernel_rfl) (by kernel_rfl) (by kernel_rfl) (fun _ _ _ h => h) (Or.inl ⟨by rfl, ?h18⟩) hHeld ?_
    case h18 => intro wv hSw; (try dsimp only at hSw); have hc : wv.cell? ⟨w.heap.size, 4, none⟩ = some (.string ⟨value.toArray⟩) := (by have h0 := hSw.x; simp only [World.cell?, h0]; rfl); go_simp; try with_reducible rfl
    try simp only [Act.put, List.setIfInBounds_toArray, List.set_cons_zero, List.set_cons_succ]
    refine wpAnyH_take (i := 22) (oi := { dst := some 43, op := Op.fieldAddr 72 (Operand.tmp 1) 5, type := 0, pos := "text.go:424", after := #[], guard := none }) (v := .pointer (some ⟨w.heap.size, 5, none⟩)) rfl (by kernel_rfl) (by kernel_rfl) (by kernel_rfl) (fun _ _ _ h => h) (Or.inl ⟨by rfl, ?h22⟩) hHeld ?_
    case h22 => intro wv hSw; (try dsimp only at hSw); kernel_rfl
    try simp only [Act.put, List.setIfInBounds_toArray, List.set_cons_zero, List.set_cons_succ]
    refine wpAnyH_take (i := 23) (oi := { dst := some 44, op := Op.load 9 (Operand.tmp 43), type := 9, pos := "text.go:424", after := #[{ on := 22, ground := Ground.data }], guard := none }) (v := .string ⟨old.toArray⟩) rfl (by kernel_rfl) (by kernel_rfl) (by kernel_rfl) (fun _ _ _ h => h) (Or.inl ⟨by rfl, ?h23⟩) hHeld ?_
    case h23 => intro wv hSw; (try dsimp only at hSw); have hc : wv.cell? ⟨w.heap.size, 5, none⟩ = some (.string ⟨old.toArray⟩) := (by have h0 := hSw.x; simp only [World.cell?, h0]; rfl); go_simp; try with_reducible rfl
    try simp only [Act.put, List.setIfInBounds_toArray, List.set_cons_zero, List.set_cons_succ]
    refine wpAnyH_take (i := 27) (oi := { dst := some 48, op := Op.fieldAddr 72 (Operand.tmp 1) 6, type := 0, pos := "text.go:424", after := #[], guard := none }) (v := .pointer (some ⟨w.heap.size, 6, none⟩)) rfl (by kernel_rfl) (by kernel_rfl) (by kernel_rfl) (fun _ _ _ h => h) (Or.inl ⟨by rfl, ?h27⟩) hHeld ?_
    case h27 => intro wv hSw; (try dsimp only at hSw); kernel_rfl
    try simp only [Act.put, List.setIfInBounds_toArray, List.set_cons_zero, List.set_cons_succ]
    refine wpAnyH_take (i := 28) (oi := { dst := some 49, op := Op.load 3 (Operand.tmp 48), type := 3, pos := "text.go:424", after := #[{ on := 27, ground := Ground.data }], guard := none }) (v := .int .i64 call) rfl (by kernel_rfl) (by kernel_rfl) (by kernel_rfl) (fun _ _ _ h => h) (Or.inl ⟨by rfl, ?h28⟩) hHeld ?_
    case h28 => intro wv hSw; (try dsimp only at hSw); have hc : wv.cell? ⟨w.heap.size, 6, none⟩ = some (.int .i64 call) := (by have h0 := hSw.x; simp only [World.cell?, h0]; rfl); go_simp; try with_reducible rfl
    try simp only [Act.put, List.setIfInBounds_toArray, List.set_cons_zero, List.set_cons_succ]
    refine wpAnyH_ready (rs := [2]) (by kernel_rfl) (by simp) ?_
    refine AllReadyH.cons (o := { dst := some 23, op := Op.call { callee := Callee.value (Operand.func 58), args := #[Operand.tmp 22], argTypes := #[3] }, type := 9, pos := "text.go:424", after := #[{ on := 1, ground := Ground.data }], guard := none }) rfl (fun KK hK => ?_) ?_
    · go_simp
      go_wp2_with (go_at_call 58; refine (HI1.out _ hHeld.bel).mono ?_; rintro r v8 ⟨rfl, hB8⟩)
      have hT8 := hHeld.below hB8
      clear hHeld hB8
      refine hK.out _ _ hT8 (fun hHeld => ?_)
      clear hK hT8
      refine wpAnyH_take (i := 3) (oi := { dst := some 24, op := Op.binOp BinOp.add 9 (Operand.tmp 23) (Operand.const (Value.string { data := #[32] })) 9, type := 9, pos := "text.go:424", after := #[{ on := 2, ground := Ground.data }], guard := none }) (v := .string ⟨s24.toArray⟩) rfl (by kernel_rfl) (by kernel_rfl) (by kernel_rfl) (fun _ _ _ h => h) (Or.inl ⟨by rfl, ?h3⟩) hHeld ?_
      case h3 => intro wv hSw; (try dsimp only at hSw); go_simp; first | (rw [if_neg (by omega), cat2, HS24.out]) | (rw [cat2, HS24.out]) | (rw [if_neg (by simp only [List.length_toArray, List.size_toArray, ByteArray.size]; omega), cat2, HS24.out]) | (trace_state; sorry)
      try simp only [Act.put, List.setIfInBounds_toArray, List.set_cons_zero, List.set_cons_succ]
      refine wpAnyH_ready (rs := [6]) (by kernel_rfl) (by simp) ?_
      refine AllReadyH.cons (o := { dst := some 27, op := Op.call { callee := Callee.value (Operand.func 58), args := #[Operand.tmp 26], argTypes := #[3] }, type := 9, pos := "text.go:424", after := #[{ on := 5, ground := Ground.data }, { on := 2, ground := Ground.chain }], guard := none }) rfl (fun KK hK => ?_) ?_
      · go_simp
        go_wp2_with (go_at_call 58; refine (HI2.out _ hHeld.bel).mono ?_; rintro r v7 ⟨rfl, hB7⟩)
        have hT7 := hHeld.below hB7
        clear hHeld hB7
        refine hK.out _ _ hT7 (fun hHeld => ?_)
        clear hK hT7
        refine wpAnyH_take (i := 7) (oi := { dst := some 28, op := Op.binOp BinOp.add 9 (Operand.tmp 24) (Operand.tmp 27) 9, type := 9, pos := "text.go:424", after := #[{ on := 3, ground := Ground.data }, { on := 6, ground := Ground.data }], guard := none }) (v := .string ⟨s28.toArray⟩) rfl (by kernel_rfl) (by kernel_rfl) (by kernel_rfl) (fun _ _ _ h => h) (Or.inl ⟨by rfl, ?h7⟩) hHeld ?_
        case h7 => intro wv hSw; (try dsimp only at hSw); go_simp; first | (rw [if_neg (by omega), cat2, HS28.out]) | (rw [cat2, HS28.out]) | (rw [if_neg (by simp only [List.length_toArray, List.size_toArray, ByteArray.size]; omega), cat2, HS28.out]) | (trace_state; sorry)
        try simp only [Act.put, List.setIfInBounds_toArray, List.set_cons_zero, List.set_cons_succ]
        refine wpAnyH_take (i := 8) (oi := { dst := some 29, op := Op.binOp BinOp.add 9 (Operand.tmp 28) (Operand.const (Value.string { data := #[32] })) 9, type := 9, pos := "text.go:424", after := #[{ on := 7, ground := Ground.data }], guard := none }) (v := .string ⟨s29.toArray⟩) rfl (by kernel_rfl) (by kernel_rfl) (by kernel_rfl) (fun _ _ _ h => h) (Or.inl ⟨by rfl, ?h8⟩) hHeld ?_
        case h8 => intro wv hSw; (try dsimp only at hSw); go_simp; first | (rw [if_neg (by omega), cat2, HS29.out]) | (rw [cat2, HS29.out]) | (rw [if_neg (by simp only [List.length_toArray, List.size_toArray, ByteArray.size]; omega), cat2, HS29.out]) | (trace_state; sorry)
        try simp only [Act.put, List.setIfInBounds_toArray, List.set_cons_zero, List.set_cons_succ]
        refine wpAnyH_take (i := 10) (oi := { dst := some 31, op := Op.binOp BinOp.add 9 (Operand.tmp 29) (Operand.tmp 30) 9, type := 9, pos := "text.go:424", after := #[{ on := 8, ground := Ground.data }, { on := 9, ground := Ground.data }], guard := none }) (v := .string ⟨s31.toArray⟩) rfl (by kernel_rfl) (by kernel_rfl) (by kernel_rfl) (fun _ _ _ h => h) (Or.inl ⟨by rfl, ?h10⟩) hHeld ?_
        case h10 => intro wv hSw; (try dsimp only at hSw); go_simp; first | (rw [if_neg (by omega), cat2, HS31.out]) | (rw [cat2, HS31.out]) | (rw [if_neg (by simp only [List.length_toArray, List.size_toArray, ByteArray.size]; omega), cat2, HS31.out]) | (trace_state; sorry)
        try simp only [Act.put, List.setIfInBounds_toArray, List.set_cons_zero, List.set_cons_succ]
        refine wpAnyH_take (i := 11) (oi := { dst := some 32, op := Op.binOp BinOp.add 9 (Operand.tmp 31) (Operand.const (Value.string { data := #[32] })) 9, type := 9, pos := "text.go:424", after := #[{ on := 10, ground := Ground.data }], guard := none }) (v := .string ⟨s32.toArray⟩) rfl (by kernel_rfl) (by kernel_rfl) (by kernel_rfl) (fun _ _ _ h => h) (Or.inl ⟨by rfl, ?h11⟩) hHeld ?_
        case h11 => intro wv hSw; (try dsimp only at hSw); go_simp; first | (rw [if_neg (by omega), cat2, HS32.out]) | (rw [cat2, HS32.out]) | (rw [if_neg (by simp only [List.length_toArray, List.size_toArray, ByteArray.size]; omega), cat2, HS32.out]) | (trace_state; sorry)
        try simp only [Act.put, List.setIfInBounds_toArray, List.set_cons_zero, List.set_cons_succ]
        refine wpAnyH_ready (rs := [14]) (by kernel_rfl) (by simp) ?_
        refine AllReadyH.cons (o := { dst := some 35, op := Op.call { callee := Callee.value (Operand.func 13), args := #[Operand.tmp 34], argTypes := #[9] }, type := 9, pos := "text.go:424", after := #[{ on := 13, ground := Ground.data }, { on := 6, ground := Ground.chain }], guard := none }) rfl (fun KK hK => ?_) ?_
        · go_simp
          go_wp2_with (go_at_call 13; refine (HQ4.out _).mono ?_; rintro r v6 ⟨rfl, hB6⟩)
          have hT6 := hHeld.below hB6
          clear hHeld hB6
          refine hK.out _ _ hT6 (fun hHeld => ?_)
          clear hK hT6
          refine wpAnyH_take (i := 15) (oi := { dst := some 36, op := Op.binOp BinOp.add 9 (Operand.tmp 32) (Operand.tmp 35) 9, type := 9, pos := "text.go:424", after := #[{ on := 11, ground := Ground.data }, { on := 14, ground := Ground.data }], guard := none }) (v := .string ⟨s36.toArray⟩) rfl (by kernel_rfl) (by kernel_rfl) (by kernel_rfl) (fun _ _ _ h => h) (Or.inl ⟨by rfl, ?h15⟩) hHeld ?_
          case h15 => intro wv hSw; (try dsimp only at hSw); go_simp; first | (rw [if_neg (by omega), cat2, HS36.out]) | (rw [cat2, HS36.out]) | (rw [if_neg (by simp only [List.length_toArray, List.size_toArray, ByteArray.size]; omega), cat2, HS36.out]) | (trace_state; sorry)
          try simp only [Act.put, List.setIfInBounds_toArray, List.set_cons_zero, List.set_cons_succ]
          refine wpAnyH_take (i := 16) (oi := { dst := some 37, op := Op.binOp BinOp.add 9 (Operand.tmp 36) (Operand.const (Value.string { data := #[32] })) 9, type := 9, pos := "text.go:424", after := #[{ on := 15, ground := Ground.data }], guard := none }) (v := .string ⟨s37.toArray⟩) rfl (by kernel_rfl) (by kernel_rfl) (by kernel_rfl) (fun _ _ _ h => h) (Or.inl ⟨by rfl, ?h16⟩) hHeld ?_
          case h16 => intro wv hSw; (try dsimp only at hSw); go_simp; first | (rw [if_neg (by omega), cat2, HS37.out]) | (rw [cat2, HS37.out]) | (rw [if_neg (by simp only [List.length_toArray, List.size_toArray, ByteArray.size]; omega), cat2, HS37.out]) | (trace_state; sorry)
          try simp only [Act.put, List.setIfInBounds_toArray, List.set_cons_zero, List.set_cons_succ]
          refine wpAnyH_ready (rs := [19]) (by kernel_rfl) (by simp) ?_
          refine AllReadyH.cons (o := { dst := some 40, op := Op.call { callee := Callee.value (Operand.func 13), args := #[Operand.tmp 39], argTypes := #[9] }, type := 9, pos := "text.go:424", after := #[{ on := 18, ground := Ground.data }, { on := 14, ground := Ground.chain }], guard := none }) rfl (fun KK hK => ?_) ?_
          · go_simp
            go_wp2_with (go_at_call 13; refine (HQ5.out _).mono ?_; rintro r v5 ⟨rfl, hB5⟩)
            have hT5 := hHeld.below hB5
            clear hHeld hB5
            refine hK.out _ _ hT5 (fun hHeld => ?_)
            clear hK hT5
            refine wpAnyH_take (i := 20) (oi := { dst := some 41, op := Op.binOp BinOp.add 9 (Operand.tmp 37) (Operand.tmp 40) 9, type := 9, pos := "text.go:424", after := #[{ on := 16, ground := Ground.data }, { on := 19, ground := Ground.data }], guard := none }) (v := .string ⟨s41.toArray⟩) rfl (by kernel_rfl) (by kernel_rfl) (by kernel_rfl) (fun _ _ _ h => h) (Or.inl ⟨by rfl, ?h20⟩) hHeld ?_
            case h20 => intro wv hSw; (try dsimp only at hSw); go_simp; first | (rw [if_neg (by omega), cat2, HS41.out]) | (rw [cat2, HS41.out]) | (rw [if_neg (by simp only [List.length_toArray, List.size_toArray, ByteArray.size]; omega), cat2, HS41.out]) | (trace_state; sorry)
            try simp only [Act.put, List.setIfInBounds_toArray, List.set_cons_zero, List.set_cons_succ]
            refine wpAnyH_take (i := 21) (oi := { dst := some 42, op := Op.binOp BinOp.add 9 (Operand.tmp 41) (Operand.const (Value.string { data := #[32] })) 9, type := 9, pos := "text.go:424", after := #[{ on := 20, ground := Ground.data }], guard := none }) (v := .string ⟨s42.toArray⟩) rfl (by kernel_rfl) (by kernel_rfl) (by kernel_rfl) (fun _ _ _ h => h) (Or.inl ⟨by rfl, ?h21⟩) hHeld ?_
            case h21 => intro wv hSw; (try dsimp only at hSw); go_simp; first | (rw [if_neg (by omega), cat2, HS42.out]) | (rw [cat2, HS42.out]) | (rw [if_neg (by simp only [List.length_toArray, List.size_toArray, ByteArray.size]; omega), cat2, HS42.out]) | (trace_state; sorry)
            try simp only [Act.put, List.setIfInBounds_toArray, List.set_cons_zero, List.set_cons_succ]
            refine wpAnyH_ready (rs := [24]) (by kernel_rfl) (by simp) ?_
            refine AllReadyH.cons (o := { dst := some 45, op := Op.call { callee := Callee.value (Operand.func 13), args := #[Operand.tmp 44], argTypes := #[9] }, type := 9, pos := "text.go:424", after := #[{ on := 23, ground := Ground.data }, { on := 19, ground := Ground.chain }], guard := none }) rfl (fun KK hK => ?_) ?_
            · go_simp
              go_wp2_with (go_at_call 13; refine (HQ6.out _).mono ?_; rintro r v4 ⟨rfl, hB4⟩)
              have hT4 := hHeld.below hB4
              clear hHeld hB4
              refine hK.out _ _ hT4 (fun hHeld => ?_)
              clear hK hT4
              refine wpAnyH_take (i := 25) (oi := { dst := some 46, op := Op.binOp BinOp.add 9 (Operand.tmp 42) (Operand.tmp 45) 9, type := 9, pos := "text.go:424", after := #[{ on := 21, ground := Ground.data }, { on := 24, ground := Ground.data }], guard := none }) (v := .string ⟨s46.toArray⟩) rfl (by kernel_rfl) (by kernel_rfl) (by kernel_rfl) (fun _ _ _ h => h) (Or.inl ⟨by rfl, ?h25⟩) hHeld ?_
              case h25 => intro wv hSw; (try dsimp only at hSw); go_simp; first | (rw [if_neg (by omega), cat2, HS46.out]) | (rw [cat2, HS46.out]) | (rw [if_neg (by simp only [List.length_toArray, List.size_toArray, ByteArray.size]; omega), cat2, HS46.out]) | (trace_state; sorry)
              try simp only [Act.put, List.setIfInBounds_toArray, List.set_cons_zero, List.set_cons_succ]
              refine wpAnyH_take (i := 26) (oi := { dst := some 47, op := Op.binOp BinOp.add 9 (Operand.tmp 46) (Operand.const (Value.string { data := #[32] })) 9, type := 9, pos := "text.go:424", after := #[{ on := 25, ground := Ground.data }], guard := none }) (v := .string ⟨s47.toArray⟩) rfl (by kernel_rfl) (by kernel_rfl) (by kernel_rfl) (fun _ _ _ h => h) (Or.inl ⟨by rfl, ?h26⟩) hHeld ?_
              case h26 => intro wv hSw; (try dsimp only at hSw); go_simp; first | (rw [if_neg (by omega), cat2, HS47.out]) | (rw [cat2, HS47.out]) | (rw [if_neg (by simp only [List.length_toArray, List.size_toArray, ByteArray.size]; omega), cat2, HS47.out]) | (trace_state; sorry)
              try simp only [Act.put, List.setIfInBounds_toArray, List.set_cons_zero, List.set_cons_succ]
              refine wpAnyH_ready (rs := [29]) (by kernel_rfl) (by simp) ?_
              refine AllReadyH.cons (o := { dst := some 50, op := Op.call { callee := Callee.value (Operand.func 58), args := #[Operand.tmp 49], argTypes := #[3] }, type := 9, pos := "text.go:424", after := #[{ on := 28, ground := Ground.data }, { on := 24, ground := Ground.chain }], guard := none }) rfl (fun KK hK => ?_) ?_
              · go_simp
                go_wp2_with (go_at_call 58; refine (HI7.out _ hHeld.bel).mono ?_; rintro r v3 ⟨rfl, hB3⟩)
                have hT3 := hHeld.below hB3
                clear hHeld hB3
                refine hK.out _ _ hT3 (fun hHeld => ?_)
                clear hK hT3
                refine wpAnyH_take (i := 30) (oi := { dst := some 51, op := Op.binOp BinOp.add 9 (Operand.tmp 47) (Operand.tmp 50) 9, type := 9, pos := "text.go:424", after := #[{ on := 26, ground := Ground.data }, { on := 29, ground := Ground.data }], guard := none }) (v := .string ⟨s51.toArray⟩) rfl (by kernel_rfl) (by kernel_rfl) (by kernel_rfl) (fun _ _ _ h => h) (Or.inl ⟨by rfl, ?h30⟩) hHeld ?_
                case h30 => intro wv hSw; (try dsimp only at hSw); go_simp; first | (rw [if_neg (by omega), cat2, HS51.out]) | (rw [cat2, HS51.out]) | (rw [if_neg (by simp only [List.length_toArray, List.size_toArray, ByteArray.size]; omega), cat2, HS51.out]) | (trace_state; sorry)
                try simp only [Act.put, List.setIfInBounds_toArray, List.set_cons_zero, List.set_cons_succ]
                refine wpAnyH_take (i := 31) (oi := { dst := some 5, op := Op.assign (Operand.tmp 51), type := 9, pos := "text.go:424", after := #[{ on := 30, ground := Ground.data }, { on := 29, ground := Ground.chain }, { on := 0, ground := Ground.phase }, { on := 1, ground := Ground.phase }, { on := 2, ground := Ground.phase }, { on := 3, ground := Ground.phase }, { on := 4, ground := Ground.phase }, { on := 5, ground := Ground.phase }, { on := 6, ground := Ground.phase }, { on := 7, ground := Ground.phase }, { on := 8, ground := Ground.phase }, { on := 9, ground := Ground.phase }, { on := 10, ground := Ground.phase }, { on := 11, ground := Ground.phase }, { on := 12, ground := Ground.phase }, { on := 13, ground := Ground.phase }, { on := 14, ground := Ground.phase }, { on := 15, ground := Ground.phase }, { on := 16, ground := Ground.phase }, { on := 17, ground := Ground.phase }, { on := 18, ground := Ground.phase }, { on := 19, ground := Ground.phase }, { on := 20, ground := Ground.phase }, { on := 21, ground := Ground.phase }, { on := 22, ground := Ground.phase }, { on := 23, ground := Ground.phase }, { on := 24, ground := Ground.phase }, { on := 25, ground := Ground.phase }, { on := 26, ground := Ground.phase }, { on := 27, ground := Ground.phase }, { on := 28, ground := Ground.phase }, { on := 29, ground := Ground.phase }, { on := 30, ground := Ground.phase }], guard := none }) (v := .string ⟨s51.toArray⟩) rfl (by kernel_rfl) (by kernel_rfl) (by kernel_rfl) (fun _ _ _ h => h) (Or.inl ⟨by rfl, ?h31⟩) hHeld ?_
                case h31 => intro wv hSw; (try dsimp only at hSw); kernel_rfl
                try simp only [Act.put, List.setIfInBounds_toArray, List.set_cons_zero, List.set_cons_succ]
                refine wpAnyH_done (by kernel_rfl) ?_ _
                obtain ⟨v9, hv9⟩ : ∃ v9, v9 = v3 := ⟨_, rfl⟩
                rw [← hv9] at hHeld ⊢
                clear hv9
                have e7 : v9.cell? ⟨w.heap.size, 7, none⟩ = some (.int .i64 back) := (by have h0 := hHeld.x; simp only [World.cell?, h0]; rfl)
                have HH := hHeld
                by_cases h0 : back = 0
                · have HE0' := HE0.out h0
                  have HE : Hid (ol = s51 ++ [32, 111, 112, 101, 110]) := HE0'
                  subst h0
                  have hcat := cat2 s51 [32, 111, 112, 101, 110]
                  go_wp2
                  go_ret
                  exact ⟨by first | rfl | (rw [HE.out]; rfl) | exact congrArg _ hcat | (simp; done) | (trace_state; sorry), HH.bel⟩
                · have HE1 : Hid (ol = s67) := HE1'.out h0
                  go_upto_region 8 with fail
                  refine wp_region_held_drew (S := OS w (#[.int .i64 client, .int .i64 seq, .int .i64 kind, .string ⟨key.toArray⟩, .string ⟨value.toArray⟩, .string ⟨old.toArray⟩, .int .i64 call, .int .i64 back, .int .i64 code, .string ⟨val.toArray⟩])) (by kernel_rfl) (HH.below (Below.refl _ _).drew) (fun hHeld => ?_)
                  refine wpAnyH_take (i := 0) (oi := { dst := some 57, op := Op.move (Operand.tmp 5), type := 9, pos := "text.go:428", after := #[], guard := none }) (v := .string ⟨s51.toArray⟩) rfl (by kernel_rfl) (by kernel_rfl) (by kernel_rfl) (fun _ _ _ h => h) (Or.inl ⟨by rfl, ?h0⟩) hHeld ?_
                  case h0 => intro wv hSw; (try dsimp only at hSw); kernel_rfl
                  try simp only [Act.put, List.setIfInBounds_toArray, List.set_cons_zero, List.set_cons_succ]
                  refine wpAnyH_take (i := 1) (oi := { dst := some 58, op := Op.binOp BinOp.add 9 (Operand.tmp 57) (Operand.const (Value.string { data := #[32] })) 9, type := 9, pos := "text.go:428", after := #[{ on := 0, ground := Ground.data }], guard := none }) (v := .string ⟨s58.toArray⟩) rfl (by kernel_rfl) (by kernel_rfl) (by kernel_rfl) (fun _ _ _ h => h) (Or.inl ⟨by rfl, ?h1⟩) hHeld ?_
                  case h1 => intro wv hSw; (try dsimp only at hSw); go_simp; first | (rw [if_neg (by omega), cat2, HS58.out]) | (rw [cat2, HS58.out]) | (rw [if_neg (by simp only [List.length_toArray, List.size_toArray, ByteArray.size]; omega), cat2, HS58.out]) | (trace_state; sorry)
                  try simp only [Act.put, List.setIfInBounds_toArray, List.set_cons_zero, List.set_cons_succ]
                  refine wpAnyH_take (i := 2) (oi := { dst := some 59, op := Op.fieldAddr 72 (Operand.tmp 1) 7, type := 0, pos := "text.go:428", after := #[], guard := none }) (v := .pointer (some ⟨w.heap.size, 7, none⟩)) rfl (by kernel_rfl) (by kernel_rfl) (by kernel_rfl) (fun _ _ _ h => h) (Or.inl ⟨by rfl, ?h2⟩) hHeld ?_
                  case h2 => intro wv hSw; (try dsimp only at hSw); kernel_rfl
                  try simp only [Act.put, List.setIfInBounds_toArray, List.set_cons_zero, List.set_cons_succ]
                  refine wpAnyH_take (i := 3) (oi := { dst := some 60, op := Op.load 3 (Operand.tmp 59), type := 3, pos := "text.go:428", after := #[{ on := 2, ground := Ground.data }], guard := none }) (v := .int .i64 back) rfl (by kernel_rfl) (by kernel_rfl) (by kernel_rfl) (fun _ _ _ h => h) (Or.inl ⟨by rfl, ?h3⟩) hHeld ?_
                  case h3 => intro wv hSw; (try dsimp only at hSw); have hc : wv.cell? ⟨w.heap.size, 7, none⟩ = some (.int .i64 back) := (by have h0 := hSw.x; simp only [World.cell?, h0]; rfl); go_simp; try with_reducible rfl
                  try simp only [Act.put, List.setIfInBounds_toArray, List.set_cons_zero, List.set_cons_succ]
                  refine wpAnyH_take (i := 7) (oi := { dst := some 64, op := Op.fieldAddr 72 (Operand.tmp 1) 8, type := 0, pos := "text.go:428", after := #[], guard := none }) (v := .pointer (some ⟨w.heap.size, 8, none⟩)) rfl (by kernel_rfl) (by kernel_rfl) (by kernel_rfl) (fun _ _ _ h => h) (Or.inl ⟨by rfl, ?h7⟩) hHeld ?_
                  case h7 => intro wv hSw; (try dsimp only at hSw); kernel_rfl
                  try simp only [Act.put, List.setIfInBounds_toArray, List.set_cons_zero, List.set_cons_succ]
                  refine wpAnyH_take (i := 8) (oi := { dst := some 65, op := Op.load 70 (Operand.tmp 64), type := 70, pos := "text.go:428", after := #[{ on := 7, ground := Ground.data }], guard := none }) (v := .agg #[.int .i64 code, .string ⟨val.toArray⟩]) rfl (by kernel_rfl) (by kernel_rfl) (by kernel_rfl) (fun _ _ _ h => h) (Or.inl ⟨by rfl, ?h8⟩) hHeld ?_
                  case h8 => intro wv hSw; (try dsimp only at hSw); exact load_midF rfl (by kernel_rfl) (run_loadVar_mid (P := Tryz.prog) _ w.heap.size 8 70 [.int .i64 code, .string ⟨val.toArray⟩] _ (range_ofF hSw.x rfl) Tryz.underlying70 rfl (by kernel_rfl))
                  try simp only [Act.put, List.setIfInBounds_toArray, List.set_cons_zero, List.set_cons_succ]
                  refine wpAnyH_ready (rs := [4]) (by kernel_rfl) (by simp) ?_
                  refine AllReadyH.cons (o := { dst := some 61, op := Op.call { callee := Callee.value (Operand.func 58), args := #[Operand.tmp 60], argTypes := #[3] }, type := 9, pos := "text.go:428", after := #[{ on := 3, ground := Ground.data }], guard := none }) rfl (fun KK hK => ?_) ?_
                  · go_simp
                    go_wp2_with (go_at_call 58; refine (HI8.out h0 _ hHeld.bel).mono ?_; rintro r v2 ⟨rfl, hB2⟩)
                    have hT2 := hHeld.below hB2
                    clear hHeld hB2
                    refine hK.out _ _ hT2 (fun hHeld => ?_)
                    clear hK hT2
                    refine wpAnyH_take (i := 5) (oi := { dst := some 62, op := Op.binOp BinOp.add 9 (Operand.tmp 58) (Operand.tmp 61) 9, type := 9, pos := "text.go:428", after := #[{ on := 1, ground := Ground.data }, { on := 4, ground := Ground.data }], guard := none }) (v := .string ⟨s62.toArray⟩) rfl (by kernel_rfl) (by kernel_rfl) (by kernel_rfl) (fun _ _ _ h => h) (Or.inl ⟨by rfl, ?h5⟩) hHeld ?_
                    case h5 => intro wv hSw; (try dsimp only at hSw); go_simp; first | (rw [if_neg (by omega), cat2, HS62.out]) | (rw [cat2, HS62.out]) | (rw [if_neg (by simp only [List.length_toArray, List.size_toArray, ByteArray.size]; omega), cat2, HS62.out]) | (trace_state; sorry)
                    try simp only [Act.put, List.setIfInBounds_toArray, List.set_cons_zero, List.set_cons_succ]
                    refine wpAnyH_take (i := 6) (oi := { dst := some 63, op := Op.binOp BinOp.add 9 (Operand.tmp 62) (Operand.const (Value.string { data := #[32] })) 9, type := 9, pos := "text.go:428", after := #[{ on := 5, ground := Ground.data }], guard := none }) (v := .string ⟨s63.toArray⟩) rfl (by kernel_rfl) (by kernel_rfl) (by kernel_rfl) (fun _ _ _ h => h) (Or.inl ⟨by rfl, ?h6⟩) hHeld ?_
                    case h6 => intro wv hSw; (try dsimp only at hSw); go_simp; first | (rw [if_neg (by omega), cat2, HS63.out]) | (rw [cat2, HS63.out]) | (rw [if_neg (by simp only [List.length_toArray, List.size_toArray, ByteArray.size]; omega), cat2, HS63.out]) | (trace_state; sorry)
                    try simp only [Act.put, List.setIfInBounds_toArray, List.set_cons_zero, List.set_cons_succ]
                    refine wpAnyH_ready (rs := [9]) (by kernel_rfl) (by simp) ?_
                    refine AllReadyH.cons (o := { dst := some 66, op := Op.call { callee := Callee.value (Operand.func 28), args := #[Operand.tmp 65], argTypes := #[70] }, type := 9, pos := "text.go:428", after := #[{ on := 8, ground := Ground.data }, { on := 4, ground := Ground.chain }], guard := none }) rfl (fun KK hK => ?_) ?_
                    · go_simp
                      go_wp2_with (go_at_call 28; refine (HRP.out _).mono ?_; rintro r v1 ⟨rfl, hB1⟩)
                      have hT1 := hHeld.below hB1
                      clear hHeld hB1
                      refine hK.out _ _ hT1 (fun hHeld => ?_)
                      clear hK hT1
                      refine wpAnyH_take (i := 10) (oi := { dst := some 67, op := Op.binOp BinOp.add 9 (Operand.tmp 63) (Operand.tmp 66) 9, type := 9, pos := "text.go:428", after := #[{ on := 6, ground := Ground.data }, { on := 9, ground := Ground.data }], guard := none }) (v := .string ⟨s67.toArray⟩) rfl (by kernel_rfl) (by kernel_rfl) (by kernel_rfl) (fun _ _ _ h => h) (Or.inl ⟨by rfl, ?h10⟩) hHeld ?_
                      case h10 => intro wv hSw; (try dsimp only at hSw); go_simp; first | (rw [if_neg (by omega), cat2, HS67.out]) | (rw [cat2, HS67.out]) | (rw [if_neg (by simp only [List.length_toArray, List.size_toArray, ByteArray.size]; omega), cat2, HS67.out]) | (trace_state; sorry)
                      try simp only [Act.put, List.setIfInBounds_toArray, List.set_cons_zero, List.set_cons_succ]
                      refine wpAnyH_take (i := 11) (oi := { dst := some 2, op := Op.assign (Operand.tmp 67), type := 9, pos := "text.go:428", after := #[{ on := 10, ground := Ground.data }, { on := 9, ground := Ground.chain }, { on := 0, ground := Ground.phase }, { on := 1, ground := Ground.phase }, { on := 2, ground := Ground.phase }, { on := 3, ground := Ground.phase }, { on := 4, ground := Ground.phase }, { on := 5, ground := Ground.phase }, { on := 6, ground := Ground.phase }, { on := 7, ground := Ground.phase }, { on := 8, ground := Ground.phase }, { on := 9, ground := Ground.phase }, { on := 10, ground := Ground.phase }], guard := none }) (v := .string ⟨s67.toArray⟩) rfl (by kernel_rfl) (by kernel_rfl) (by kernel_rfl) (fun _ _ _ h => h) (Or.inl ⟨by rfl, ?h11⟩) hHeld ?_
                      case h11 => intro wv hSw; (try dsimp only at hSw); kernel_rfl
                      try simp only [Act.put, List.setIfInBounds_toArray, List.set_cons_zero, List.set_cons_succ]
                      refine wpAnyH_done (by kernel_rfl) ?_ _
                      go_wp2
                      go_ret
                      exact ⟨by rw [HE1.out]; rfl, hHeld.bel⟩
                    exact AllReadyH.nil
                  exact AllReadyH.nil
              exact AllReadyH.nil
            exact AllReadyH.nil
          exact AllReadyH.nil
        exact AllReadyH.nil
      exact AllReadyH.nil
    exact AllReadyH.nil
  case pos => as_aux_lemma =>
    obtain ⟨j, rfl⟩ : ∃ j : Nat, kind = (j : Int) + 1 := ⟨(kind - 1).toNat, by omega⟩
    have hj : j < 4 := by omega
    have hwd : sw = opsL.getD j [] := by
      rw [hsw]; unfold wordOf
      rw [if_pos (by simp only [opsL, List.length_cons, List.length_nil]; omega), show ((j : Int) + 1 - 1).toNat = j by omega]
    have hsub : IntKind.i64.wrap ((j : Int) + 1 - 1) = (j : Int) := by rw [IntKind.wrap_i64]; omega
    have hjj : (j : Int) + 1 - 1 = (j : Int) := by omega
    have hcj := HS2.out j (by simpa [opsL] using hj)
    rw [← hwd] at hcj
    clear hsw hwd HS2
    go_upto_region 5 with fail
    refine wp_region_held_drew (S := OS w (#[.int .i64 client, .int .i64 seq, .int .i64 ((j : Int) + 1), .string ⟨key.toArray⟩, .string ⟨value.toArray⟩, .string ⟨old.toArray⟩, .int .i64 call, .int .i64 back, .int .i64 code, .string ⟨val.toArray⟩])) (by kernel_rfl) HS0.out (fun hHeld => ?_)
    refine wpAnyH_take (i := 0) (oi := { dst := some 21, op := Op.fieldAddr 72 (Operand.tmp 1) 0, type := 0, pos := "text.go:424", after := #[], guard := none }) (v := .pointer (some ⟨w.heap.size, 0, none⟩)) rfl (by kernel_rfl) (by kernel_rfl) (by kernel_rfl) (fun _ _ _ h => h) (Or.inl ⟨by rfl, ?h0⟩) hHeld ?_
    case h0 => intro wv hSw; (try dsimp only at hSw); kernel_rfl
    try simp only [Act.put, List.setIfInBounds_toArray, List.set_cons_zero, List.set_cons_succ]
    refine wpAnyH_take (i := 1) (oi := { dst := some 22, op := Op.load 3 (Operand.tmp 21), type := 3, pos := "text.go:424", after := #[{ on := 0, ground := Ground.data }], guard := none }) (v := .int .i64 client) rfl (by kernel_rfl) (by kernel_rfl) (by kernel_rfl) (fun _ _ _ h => h) (Or.inl ⟨by rfl, ?h1⟩) hHeld ?_
    case h1 => intro wv hSw; (try dsimp only at hSw); have hc : wv.cell? ⟨w.heap.size, 0, none⟩ = some (.int .i64 client) := (by have h0 := hSw.x; simp only [World.cell?, h0]; rfl); go_simp; try with_reducible rfl
    try simp only [Act.put, List.setIfInBounds_toArray, List.set_cons_zero, List.set_cons_succ]
    refine wpAnyH_take (i := 4) (oi := { dst := some 25, op := Op.fieldAddr 72 (Operand.tmp 1) 1, type := 0, pos := "text.go:424", after := #[], guard := none }) (v := .pointer (some ⟨w.heap.size, 1, none⟩)) rfl (by kernel_rfl) (by kernel_rfl) (by kernel_rfl) (fun _ _ _ h => h) (Or.inl ⟨by rfl, ?h4⟩) hHeld ?_
    case h4 => intro wv hSw; (try dsimp only at hSw); kernel_rfl
    try simp only [Act.put, List.setIfInBounds_toArray, List.set_cons_zero, List.set_cons_succ]
    refine wpAnyH_take (i := 5) (oi := { dst := some 26, op := Op.load 3 (Operand.tmp 25), type := 3, pos := "text.go:424", after := #[{ on := 4, ground := Ground.data }], guard := none }) (v := .int .i64 seq) rfl (by kernel_rfl) (by kernel_rfl) (by kernel_rfl) (fun _ _ _ h => h) (Or.inl ⟨by rfl, ?h5⟩) hHeld ?_
    case h5 => intro wv hSw; (try dsimp only at hSw); have hc : wv.cell? ⟨w.heap.size, 1, none⟩ = some (.int .i64 seq) := (by have h0 := hSw.x; simp only [World.cell?, h0]; rfl); go_simp; try with_reducible rfl
    try simp only [Act.put, List.setIfInBounds_toArray, List.set_cons_zero, List.set_cons_succ]
    refine wpAnyH_take (i := 9) (oi := { dst := some 30, op := Op.move (Operand.tmp 4), type := 9, pos := "text.go:424", after := #[], guard := none }) (v := .string ⟨sw.toArray⟩) rfl (by kernel_rfl) (by kernel_rfl) (by kernel_rfl) (fun _ _ _ h => h) (Or.inl ⟨by rfl, ?h9⟩) hHeld ?_
    case h9 => intro wv hSw; (try dsimp only at hSw); kernel_rfl
    try simp only [Act.put, List.setIfInBounds_toArray, List.set_cons_zero, List.set_cons_succ]
    refine wpAnyH_take (i := 12) (oi := { dst := some 33, op := Op.fieldAddr 72 (Operand.tmp 1) 3, type := 0, pos := "text.go:424", after := #[], guard := none }) (v := .pointer (some ⟨w.heap.size, 3, none⟩)) rfl (by kernel_rfl) (by kernel_rfl) (by kernel_rfl) (fun _ _ _ h => h) (Or.inl ⟨by rfl, ?h12⟩) hHeld ?_
    case h12 => intro wv hSw; (try dsimp only at hSw); kernel_rfl
    try simp only [Act.put, List.setIfInBounds_toArray, List.set_cons_zero, List.set_cons_succ]
    refine wpAnyH_take (i := 13) (oi := { dst := some 34, op := Op.load 9 (Operand.tmp 33), type := 9, pos := "text.go:424", after := #[{ on := 12, ground := Ground.data }], guard := none }) (v := .string ⟨key.toArray⟩) rfl (by kernel_rfl) (by kernel_rfl) (by kernel_rfl) (fun _ _ _ h => h) (Or.inl ⟨by rfl, ?h13⟩) hHeld ?_
    case h13 => intro wv hSw; (try dsimp only at hSw); have hc : wv.cell? ⟨w.heap.size, 3, none⟩ = some (.string ⟨key.toArray⟩) := (by have h0 := hSw.x; simp only [World.cell?, h0]; rfl); go_simp; try with_reducible rfl
    try simp only [Act.put, List.setIfInBounds_toArray, List.set_cons_zero, List.set_cons_succ]
    refine wpAnyH_take (i := 17) (oi := { dst := some 38, op := Op.fieldAddr 72 (Operand.tmp 1) 4, type := 0, pos := "text.go:424", after := #[], guard := none }) (v := .pointer (some ⟨w.heap.size, 4, none⟩)) rfl (by kernel_rfl) (by kernel_rfl) (by kernel_rfl) (fun _ _ _ h => h) (Or.inl ⟨by rfl, ?h17⟩) hHeld ?_
    case h17 => intro wv hSw; (try dsimp only at hSw); kernel_rfl
    try simp only [Act.put, List.setIfInBounds_toArray, List.set_cons_zero, List.set_cons_succ]
    refine wpAnyH_take (i := 18) (oi := { dst := some 39, op := Op.load 9 (Operand.tmp 38), type := 9, pos := "text.go:424", after := #[{ on := 17, ground := Ground.data }], guard := none }) (v := .string ⟨value.toArray⟩) rfl (by kernel_rfl) (by kernel_rfl) (by kernel_rfl) (fun _ _ _ h => h) (Or.inl ⟨by rfl, ?h18⟩) hHeld ?_
    case h18 => intro wv hSw; (try dsimp only at hSw); have hc : wv.cell? ⟨w.heap.size, 4, none⟩ = some (.string ⟨value.toArray⟩) := (by have h0 := hSw.x; simp only [World.cell?, h0]; rfl); go_simp; try with_reducible rfl
    try simp only [Act.put, List.setIfInBounds_toArray, List.set_cons_zero, List.set_cons_succ]
    refine wpAnyH_take (i := 22) (oi := { dst := some 43, op := Op.fieldAddr 72 (Operand.tmp 1) 5, type := 0, pos := "text.go:424", after := #[], guard := none }) (v := .pointer (some ⟨w.heap.size, 5, none⟩)) rfl (by kernel_rfl) (by kernel_rfl) (by kernel_rfl) (fun _ _ _ h => h) (Or.inl ⟨by rfl, ?h22⟩) hHeld ?_
    case h22 => intro wv hSw; (try dsimp only at hSw); kernel_rfl
    try simp only [Act.put, List.setIfInBounds_toArray, List.set_cons_zero, List.set_cons_succ]
    refine wpAnyH_take (i := 23) (oi := { dst := some 44, op := Op.load 9 (Operand.tmp 43), type := 9, pos := "text.go:424", after := #[{ on := 22, ground := Ground.data }], guard := none }) (v := .string ⟨old.toArray⟩) rfl (by kernel_rfl) (by kernel_rfl) (by kernel_rfl) (fun _ _ _ h => h) (Or.inl ⟨by rfl, ?h23⟩) hHeld ?_
    case h23 => intro wv hSw; (try dsimp only at hSw); have hc : wv.cell? ⟨w.heap.size, 5, none⟩ = some (.string ⟨old.toArray⟩) := (by have h0 := hSw.x; simp only [World.cell?, h0]; rfl); go_simp; try with_reducible rfl
    try simp only [Act.put, List.setIfInBounds_toArray, List.set_cons_zero, List.set_cons_succ]
    refine wpAnyH_take (i := 27) (oi := { dst := some 48, op := Op.fieldAddr 72 (Operand.tmp 1) 6, type := 0, pos := "text.go:424", after := #[], guard := none }) (v := .pointer (some ⟨w.heap.size, 6, none⟩)) rfl (by kernel_rfl) (by kernel_rfl) (by kernel_rfl) (fun _ _ _ h => h) (Or.inl ⟨by rfl, ?h27⟩) hHeld ?_
    case h27 => intro wv hSw; (try dsimp only at hSw); kernel_rfl
    try simp only [Act.put, List.setIfInBounds_toArray, List.set_cons_zero, List.set_cons_succ]
    refine wpAnyH_take (i := 28) (oi := { dst := some 49, op := Op.load 3 (Operand.tmp 48), type := 3, pos := "text.go:424", after := #[{ on := 27, ground := Ground.data }], guard := none }) (v := .int .i64 call) rfl (by kernel_rfl) (by kernel_rfl) (by kernel_rfl) (fun _ _ _ h => h) (Or.inl ⟨by rfl, ?h28⟩) hHeld ?_
    case h28 => intro wv hSw; (try dsimp only at hSw); have hc : wv.cell? ⟨w.heap.size, 6, none⟩ = some (.int .i64 call) := (by have h0 := hSw.x; simp only [World.cell?, h0]; rfl); go_simp; try with_reducible rfl
    try simp only [Act.put, List.setIfInBounds_toArray, List.set_cons_zero, List.set_cons_succ]
    refine wpAnyH_ready (rs := [2]) (by kernel_rfl) (by simp) ?_
    refine AllReadyH.cons (o := { dst := some 23, op := Op.call { callee := Callee.value (Operand.func 58), args := #[Operand.tmp 22], argTypes := #[3] }, type := 9, pos := "text.go:424", after := #[{ on := 1, ground := Ground.data }], guard := none }) rfl (fun KK hK => ?_) ?_
    · go_simp
      go_wp2_with (go_at_call 58; refine (HI1.out _ hHeld.bel).mono ?_; rintro r v8 ⟨rfl, hB8⟩)
      have hT8 := hHeld.below hB8
      clear hHeld hB8
      refine hK.out _ _ hT8 (fun hHeld => ?_)
      clear hK hT8
      refine wpAnyH_take (i := 3) (oi := { dst := some 24, op := Op.binOp BinOp.add 9 (Operand.tmp 23) (Operand.const (Value.string { data := #[32] })) 9, type := 9, pos := "text.go:424", after := #[{ on := 2, ground := Ground.data }], guard := none }) (v := .string ⟨s24.toArray⟩) rfl (by kernel_rfl) (by kernel_rfl) (by kernel_rfl) (fun _ _ _ h => h) (Or.inl ⟨by rfl, ?h3⟩) hHeld ?_
      case h3 => intro wv hSw; (try dsimp only at hSw); go_simp; first | (rw [if_neg (by omega), cat2, HS24.out]) | (rw [cat2, HS24.out]) | (rw [if_neg (by simp only [List.length_toArray, List.size_toArray, ByteArray.size]; omega), cat2, HS24.out]) | (trace_state; sorry)
      try simp only [Act.put, List.setIfInBounds_toArray, List.set_cons_zero, List.set_cons_succ]
      refine wpAnyH_ready (rs := [6]) (by kernel_rfl) (by simp) ?_
      refine AllReadyH.cons (o := { dst := some 27, op := Op.call { callee := Callee.value (Operand.func 58), args := #[Operand.tmp 26], argTypes := #[3] }, type := 9, pos := "text.go:424", after := #[{ on := 5, ground := Ground.data }, { on := 2, ground := Ground.chain }], guard := none }) rfl (fun KK hK => ?_) ?_
      · go_simp
        go_wp2_with (go_at_call 58; refine (HI2.out _ hHeld.bel).mono ?_; rintro r v7 ⟨rfl, hB7⟩)
        have hT7 := hHeld.below hB7
        clear hHeld hB7
        refine hK.out _ _ hT7 (fun hHeld => ?_)
        clear hK hT7
        refine wpAnyH_take (i := 7) (oi := { dst := some 28, op := Op.binOp BinOp.add 9 (Operand.tmp 24) (Operand.tmp 27) 9, type := 9, pos := "text.go:424", after := #[{ on := 3, ground := Ground.data }, { on := 6, ground := Ground.data }], guard := none }) (v := .string ⟨s28.toArray⟩) rfl (by kernel_rfl) (by kernel_rfl) (by kernel_rfl) (fun _ _ _ h => h) (Or.inl ⟨by rfl, ?h7⟩) hHeld ?_
        case h7 => intro wv hSw; (try dsimp only at hSw); go_simp; first | (rw [if_neg (by omega), cat2, HS28.out]) | (rw [cat2, HS28.out]) | (rw [if_neg (by simp only [List.length_toArray, List.size_toArray, ByteArray.size]; omega), cat2, HS28.out]) | (trace_state; sorry)
        try simp only [Act.put, List.setIfInBounds_toArray, List.set_cons_zero, List.set_cons_succ]
        refine wpAnyH_take (i := 8) (oi := { dst := some 29, op := Op.binOp BinOp.add 9 (Operand.tmp 28) (Operand.const (Value.string { data := #[32] })) 9, type := 9, pos := "text.go:424", after := #[{ on := 7, ground := Ground.data }], guard := none }) (v := .string ⟨s29.toArray⟩) rfl (by kernel_rfl) (by kernel_rfl) (by kernel_rfl) (fun _ _ _ h => h) (Or.inl ⟨by rfl, ?h8⟩) hHeld ?_
        case h8 => intro wv hSw; (try dsimp only at hSw); go_simp; first | (rw [if_neg (by omega), cat2, HS29.out]) | (rw [cat2, HS29.out]) | (rw [if_neg (by simp only [List.length_toArray, List.size_toArray, ByteArray.size]; omega), cat2, HS29.out]) | (trace_state; sorry)
        try simp only [Act.put, List.setIfInBounds_toArray, List.set_cons_zero, List.set_cons_succ]
        refine wpAnyH_take (i := 10) (oi := { dst := some 31, op := Op.binOp BinOp.add 9 (Operand.tmp 29) (Operand.tmp 30) 9, type := 9, pos := "text.go:424", after := #[{ on := 8, ground := Ground.data }, { on := 9, ground := Ground.data }], guard := none }) (v := .string ⟨s31.toArray⟩) rfl (by kernel_rfl) (by kernel_rfl) (by kernel_rfl) (fun _ _ _ h => h) (Or.inl ⟨by rfl, ?h10⟩) hHeld ?_
        case h10 => intro wv hSw; (try dsimp only at hSw); go_simp; first | (rw [if_neg (by omega), cat2, HS31.out]) | (rw [cat2, HS31.out]) | (rw [if_neg (by simp only [List.length_toArray, List.size_toArray, ByteArray.size]; omega), cat2, HS31.out]) | (trace_state; sorry)
        try simp only [Act.put, List.setIfInBounds_toArray, List.set_cons_zero, List.set_cons_succ]
        refine wpAnyH_take (i := 11) (oi := { dst := some 32, op := Op.binOp BinOp.add 9 (Operand.tmp 31) (Operand.const (Value.string { data := #[32] })) 9, type := 9, pos := "text.go:424", after := #[{ on := 10, ground := Ground.data }], guard := none }) (v := .string ⟨s32.toArray⟩) rfl (by kernel_rfl) (by kernel_rfl) (by kernel_rfl) (fun _ _ _ h => h) (Or.inl ⟨by rfl, ?h11⟩) hHeld ?_
        case h11 => intro wv hSw; (try dsimp only at hSw); go_simp; first | (rw [if_neg (by omega), cat2, HS32.out]) | (rw [cat2, HS32.out]) | (rw [if_neg (by simp only [List.length_toArray, List.size_toArray, ByteArray.size]; omega), cat2, HS32.out]) | (trace_state; sorry)
        try simp only [Act.put, List.setIfInBounds_toArray, List.set_cons_zero, List.set_cons_succ]
        refine wpAnyH_ready (rs := [14]) (by kernel_rfl) (by simp) ?_
        refine AllReadyH.cons (o := { dst := some 35, op := Op.call { callee := Callee.value (Operand.func 13), args := #[Operand.tmp 34], argTypes := #[9] }, type := 9, pos := "text.go:424", after := #[{ on := 13, ground := Ground.data }, { on := 6, ground := Ground.chain }], guard := none }) rfl (fun KK hK => ?_) ?_
        · go_simp
          go_wp2_with (go_at_call 13; refine (HQ4.out _).mono ?_; rintro r v6 ⟨rfl, hB6⟩)
          have hT6 := hHeld.below hB6
          clear hHeld hB6
          refine hK.out _ _ hT6 (fun hHeld => ?_)
          clear hK hT6
          refine wpAnyH_take (i := 15) (oi := { dst := some 36, op := Op.binOp BinOp.add 9 (Operand.tmp 32) (Operand.tmp 35) 9, type := 9, pos := "text.go:424", after := #[{ on := 11, ground := Ground.data }, { on := 14, ground := Ground.data }], guard := none }) (v := .string ⟨s36.toArray⟩) rfl (by kernel_rfl) (by kernel_rfl) (by kernel_rfl) (fun _ _ _ h => h) (Or.inl ⟨by rfl, ?h15⟩) hHeld ?_
          case h15 => intro wv hSw; (try dsimp only at hSw); go_simp; first | (rw [if_neg (by omega), cat2, HS36.out]) | (rw [cat2, HS36.out]) | (rw [if_neg (by simp only [List.length_toArray, List.size_toArray, ByteArray.size]; omega), cat2, HS36.out]) | (trace_state; sorry)
          try simp only [Act.put, List.setIfInBounds_toArray, List.set_cons_zero, List.set_cons_succ]
          refine wpAnyH_take (i := 16) (oi := { dst := some 37, op := Op.binOp BinOp.add 9 (Operand.tmp 36) (Operand.const (Value.string { data := #[32] })) 9, type := 9, pos := "text.go:424", after := #[{ on := 15, ground := Ground.data }], guard := none }) (v := .string ⟨s37.toArray⟩) rfl (by kernel_rfl) (by kernel_rfl) (by kernel_rfl) (fun _ _ _ h => h) (Or.inl ⟨by rfl, ?h16⟩) hHeld ?_
          case h16 => intro wv hSw; (try dsimp only at hSw); go_simp; first | (rw [if_neg (by omega), cat2, HS37.out]) | (rw [cat2, HS37.out]) | (rw [if_neg (by simp only [List.length_toArray, List.size_toArray, ByteArray.size]; omega), cat2, HS37.out]) | (trace_state; sorry)
          try simp only [Act.put, List.setIfInBounds_toArray, List.set_cons_zero, List.set_cons_succ]
          refine wpAnyH_ready (rs := [19]) (by kernel_rfl) (by simp) ?_
          refine AllReadyH.cons (o := { dst := some 40, op := Op.call { callee := Callee.value (Operand.func 13), args := #[Operand.tmp 39], argTypes := #[9] }, type := 9, pos := "text.go:424", after := #[{ on := 18, ground := Ground.data }, { on := 14, ground := Ground.chain }], guard := none }) rfl (fun KK hK => ?_) ?_
          · go_simp
            go_wp2_with (go_at_call 13; refine (HQ5.out _).mono ?_; rintro r v5 ⟨rfl, hB5⟩)
            have hT5 := hHeld.below hB5
            clear hHeld hB5
            refine hK.out _ _ hT5 (fun hHeld => ?_)
            clear hK hT5
            refine wpAnyH_take (i := 20) (oi := { dst := some 41, op := Op.binOp BinOp.add 9 (Operand.tmp 37) (Operand.tmp 40) 9, type := 9, pos := "text.go:424", after := #[{ on := 16, ground := Ground.data }, { on := 19, ground := Ground.data }], guard := none }) (v := .string ⟨s41.toArray⟩) rfl (by kernel_rfl) (by kernel_rfl) (by kernel_rfl) (fun _ _ _ h => h) (Or.inl ⟨by rfl, ?h20⟩) hHeld ?_
            case h20 => intro wv hSw; (try dsimp only at hSw); go_simp; first | (rw [if_neg (by omega), cat2, HS41.out]) | (rw [cat2, HS41.out]) | (rw [if_neg (by simp only [List.length_toArray, List.size_toArray, ByteArray.size]; omega), cat2, HS41.out]) | (trace_state; sorry)
            try simp only [Act.put, List.setIfInBounds_toArray, List.set_cons_zero, List.set_cons_succ]
            refine wpAnyH_take (i := 21) (oi := { dst := some 42, op := Op.binOp BinOp.add 9 (Operand.tmp 41) (Operand.const (Value.string { data := #[32] })) 9, type := 9, pos := "text.go:424", after := #[{ on := 20, ground := Ground.data }], guard := none }) (v := .string ⟨s42.toArray⟩) rfl (by kernel_rfl) (by kernel_rfl) (by kernel_rfl) (fun _ _ _ h => h) (Or.inl ⟨by rfl, ?h21⟩) hHeld ?_
            case h21 => intro wv hSw; (try dsimp only at hSw); go_simp; first | (rw [if_neg (by omega), cat2, HS42.out]) | (rw [cat2, HS42.out]) | (rw [if_neg (by simp only [List.length_toArray, List.size_toArray, ByteArray.size]; omega), cat2, HS42.out]) | (trace_state; sorry)
            try simp only [Act.put, List.setIfInBounds_toArray, List.set_cons_zero, List.set_cons_succ]
            refine wpAnyH_ready (rs := [24]) (by kernel_rfl) (by simp) ?_
            refine AllReadyH.cons (o := { dst := some 45, op := Op.call { callee := Callee.value (Operand.func 13), args := #[Operand.tmp 44], argTypes := #[9] }, type := 9, pos := "text.go:424", after := #[{ on := 23, ground := Ground.data }, { on := 19, ground := Ground.chain }], guard := none }) rfl (fun KK hK => ?_) ?_
            · go_simp
              go_wp2_with (go_at_call 13; refine (HQ6.out _).mono ?_; rintro r v4 ⟨rfl, hB4⟩)
              have hT4 := hHeld.below hB4
              clear hHeld hB4
              refine hK.out _ _ hT4 (fun hHeld => ?_)
              clear hK hT4
              refine wpAnyH_take (i := 25) (oi := { dst := some 46, op := Op.binOp BinOp.add 9 (Operand.tmp 42) (Operand.tmp 45) 9, type := 9, pos := "text.go:424", after := #[{ on := 21, ground := Ground.data }, { on := 24, ground := Ground.data }], guard := none }) (v := .string ⟨s46.toArray⟩) rfl (by kernel_rfl) (by kernel_rfl) (by kernel_rfl) (fun _ _ _ h => h) (Or.inl ⟨by rfl, ?h25⟩) hHeld ?_
              case h25 => intro wv hSw; (try dsimp only at hSw); go_simp; first | (rw [if_neg (by omega), cat2, HS46.out]) | (rw [cat2, HS46.out]) | (rw [if_neg (by simp only [List.length_toArray, List.size_toArray, ByteArray.size]; omega), cat2, HS46.out]) | (trace_state; sorry)
              try simp only [Act.put, List.setIfInBounds_toArray, List.set_cons_zero, List.set_cons_succ]
              refine wpAnyH_take (i := 26) (oi := { dst := some 47, op := Op.binOp BinOp.add 9 (Operand.tmp 46) (Operand.const (Value.string { data := #[32] })) 9, type := 9, pos := "text.go:424", after := #[{ on := 25, ground := Ground.data }], guard := none }) (v := .string ⟨s47.toArray⟩) rfl (by kernel_rfl) (by kernel_rfl) (by kernel_rfl) (fun _ _ _ h => h) (Or.inl ⟨by rfl, ?h26⟩) hHeld ?_
              case h26 => intro wv hSw; (try dsimp only at hSw); go_simp; first | (rw [if_neg (by omega), cat2, HS47.out]) | (rw [cat2, HS47.out]) | (rw [if_neg (by simp only [List.length_toArray, List.size_toArray, ByteArray.size]; omega), cat2, HS47.out]) | (trace_state; sorry)
              try simp only [Act.put, List.setIfInBounds_toArray, List.set_cons_zero, List.set_cons_succ]
              refine wpAnyH_ready (rs := [29]) (by kernel_rfl) (by simp) ?_
              refine AllReadyH.cons (o := { dst := some 50, op := Op.call { callee := Callee.value (Operand.func 58), args := #[Operand.tmp 49], argTypes := #[3] }, type := 9, pos := "text.go:424", after := #[{ on := 28, ground := Ground.data }, { on := 24, ground := Ground.chain }], guard := none }) rfl (fun KK hK => ?_) ?_
              · go_simp
                go_wp2_with (go_at_call 58; refine (HI7.out _ hHeld.bel).mono ?_; rintro r v3 ⟨rfl, hB3⟩)
                have hT3 := hHeld.below hB3
                clear hHeld hB3
                refine hK.out _ _ hT3 (fun hHeld => ?_)
                clear hK hT3
                refine wpAnyH_take (i := 30) (oi := { dst := some 51, op := Op.binOp BinOp.add 9 (Operand.tmp 47) (Operand.tmp 50) 9, type := 9, pos := "text.go:424", after := #[{ on := 26, ground := Ground.data }, { on := 29, ground := Ground.data }], guard := none }) (v := .string ⟨s51.toArray⟩) rfl (by kernel_rfl) (by kernel_rfl) (by kernel_rfl) (fun _ _ _ h => h) (Or.inl ⟨by rfl, ?h30⟩) hHeld ?_
                case h30 => intro wv hSw; (try dsimp only at hSw); go_simp; first | (rw [if_neg (by omega), cat2, HS51.out]) | (rw [cat2, HS51.out]) | (rw [if_neg (by simp only [List.length_toArray, List.size_toArray, ByteArray.size]; omega), cat2, HS51.out]) | (trace_state; sorry)
                try simp only [Act.put, List.setIfInBounds_toArray, List.set_cons_zero, List.set_cons_succ]
                refine wpAnyH_take (i := 31) (oi := { dst := some 5, op := Op.assign (Operand.tmp 51), type := 9, pos := "text.go:424", after := #[{ on := 30, ground := Ground.data }, { on := 29, ground := Ground.chain }, { on := 0, ground := Ground.phase }, { on := 1, ground := Ground.phase }, { on := 2, ground := Ground.phase }, { on := 3, ground := Ground.phase }, { on := 4, ground := Ground.phase }, { on := 5, ground := Ground.phase }, { on := 6, ground := Ground.phase }, { on := 7, ground := Ground.phase }, { on := 8, ground := Ground.phase }, { on := 9, ground := Ground.phase }, { on := 10, ground := Ground.phase }, { on := 11, ground := Ground.phase }, { on := 12, ground := Ground.phase }, { on := 13, ground := Ground.phase }, { on := 14, ground := Ground.phase }, { on := 15, ground := Ground.phase }, { on := 16, ground := Ground.phase }, { on := 17, ground := Ground.phase }, { on := 18, ground := Ground.phase }, { on := 19, ground := Ground.phase }, { on := 20, ground := Ground.phase }, { on := 21, ground := Ground.phase }, { on := 22, ground := Ground.phase }, { on := 23, ground := Ground.phase }, { on := 24, ground := Ground.phase }, { on := 25, ground := Ground.phase }, { on := 26, ground := Ground.phase }, { on := 27, ground := Ground.phase }, { on := 28, ground := Ground.phase }, { on := 29, ground := Ground.phase }, { on := 30, ground := Ground.phase }], guard := none }) (v := .string ⟨s51.toArray⟩) rfl (by kernel_rfl) (by kernel_rfl) (by kernel_rfl) (fun _ _ _ h => h) (Or.inl ⟨by rfl, ?h31⟩) hHeld ?_
                case h31 => intro wv hSw; (try dsimp only at hSw); kernel_rfl
                try simp only [Act.put, List.setIfInBounds_toArray, List.set_cons_zero, List.set_cons_succ]
                refine wpAnyH_done (by kernel_rfl) ?_ _
                obtain ⟨v9, hv9⟩ : ∃ v9, v9 = v3 := ⟨_, rfl⟩
                rw [← hv9] at hHeld ⊢
                clear hv9
                have e7 : v9.cell? ⟨w.heap.size, 7, none⟩ = some (.int .i64 back) := (by have h0 := hHeld.x; simp only [World.cell?, h0]; rfl)
                have HH := hHeld
                by_cases h0 : back = 0
                · have HE0' := HE0.out h0
                  have HE : Hid (ol = s51 ++ [32, 111, 112, 101, 110]) := HE0'
                  subst h0
                  have hcat := cat2 s51 [32, 111, 112, 101, 110]
                  go_wp2
                  go_ret
                  exact ⟨by first | rfl | (rw [HE.out]; rfl) | exact congrArg _ hcat | (simp; done) | (trace_state; sorry), HH.bel⟩
                · have HE1 : Hid (ol = s67) := HE1'.out h0
                  go_upto_region 8 with fail
                  refine wp_region_held_drew (S := OS w (#[.int .i64 client, .int .i64 seq, .int .i64 ((j : Int) + 1), .string ⟨key.toArray⟩, .string ⟨value.toArray⟩, .string ⟨old.toArray⟩, .int .i64 call, .int .i64 back, .int .i64 code, .string ⟨val.toArray⟩])) (by kernel_rfl) (HH.below (Below.refl _ _).drew) (fun hHeld => ?_)
                  refine wpAnyH_take (i := 0) (oi := { dst := some 57, op := Op.move (Operand.tmp 5), type := 9, pos := "text.go:428", after := #[], guard := none }) (v := .string ⟨s51.toArray⟩) rfl (by kernel_rfl) (by kernel_rfl) (by kernel_rfl) (fun _ _ _ h => h) (Or.inl ⟨by rfl, ?h0⟩) hHeld ?_
                  case h0 => intro wv hSw; (try dsimp only at hSw); kernel_rfl
                  try simp only [Act.put, List.setIfInBounds_toArray, List.set_cons_zero, List.set_cons_succ]
                  refine wpAnyH_take (i := 1) (oi := { dst := some 58, op := Op.binOp BinOp.add 9 (Operand.tmp 57) (Operand.const (Value.string { data := #[32] })) 9, type := 9, pos := "text.go:428", after := #[{ on := 0, ground := Ground.data }], guard := none }) (v := .string ⟨s58.toArray⟩) rfl (by kernel_rfl) (by kernel_rfl) (by kernel_rfl) (fun _ _ _ h => h) (Or.inl ⟨by rfl, ?h1⟩) hHeld ?_
                  case h1 => intro wv hSw; (try dsimp only at hSw); go_simp; first | (rw [if_neg (by omega), cat2, HS58.out]) | (rw [cat2, HS58.out]) | (rw [if_neg (by simp only [List.length_toArray, List.size_toArray, ByteArray.size]; omega), cat2, HS58.out]) | (trace_state; sorry)
                  try simp only [Act.put, List.setIfInBounds_toArray, List.set_cons_zero, List.set_cons_succ]
                  refine wpAnyH_take (i := 2) (oi := { dst := some 59, op := Op.fieldAddr 72 (Operand.tmp 1) 7, type := 0, pos := "text.go:428", after := #[], guard := none }) (v := .pointer (some ⟨w.heap.size, 7, none⟩)) rfl (by kernel_rfl) (by kernel_rfl) (by kernel_rfl) (fun _ _ _ h => h) (Or.inl ⟨by rfl, ?h2⟩) hHeld ?_
                  case h2 => intro wv hSw; (try dsimp only at hSw); kernel_rfl
                  try simp only [Act.put, List.setIfInBounds_toArray, List.set_cons_zero, List.set_cons_succ]
                  refine wpAnyH_take (i := 3) (oi := { dst := some 60, op := Op.load 3 (Operand.tmp 59), type := 3, pos := "text.go:428", after := #[{ on := 2, ground := Ground.data }], guard := none }) (v := .int .i64 back) rfl (by kernel_rfl) (by kernel_rfl) (by kernel_rfl) (fun _ _ _ h => h) (Or.inl ⟨by rfl, ?h3⟩) hHeld ?_
                  case h3 => intro wv hSw; (try dsimp only at hSw); have hc : wv.cell? ⟨w.heap.size, 7, none⟩ = some (.int .i64 back) := (by have h0 := hSw.x; simp only [World.cell?, h0]; rfl); go_simp; try with_reducible rfl
                  try simp only [Act.put, List.setIfInBounds_toArray, List.set_cons_zero, List.set_cons_succ]
                  refine wpAnyH_take (i := 7) (oi := { dst := some 64, op := Op.fieldAddr 72 (Operand.tmp 1) 8, type := 0, pos := "text.go:428", after := #[], guard := none }) (v := .pointer (some ⟨w.heap.size, 8, none⟩)) rfl (by kernel_rfl) (by kernel_rfl) (by kernel_rfl) (fun _ _ _ h => h) (Or.inl ⟨by rfl, ?h7⟩) hHeld ?_
                  case h7 => intro wv hSw; (try dsimp only at hSw); kernel_rfl
                  try simp only [Act.put, List.setIfInBounds_toArray, List.set_cons_zero, List.set_cons_succ]
                  refine wpAnyH_take (i := 8) (oi := { dst := some 65, op := Op.load 70 (Operand.tmp 64), type := 70, pos := "text.go:428", after := #[{ on := 7, ground := Ground.data }], guard := none }) (v := .agg #[.int .i64 code, .string ⟨val.toArray⟩]) rfl (by kernel_rfl) (by kernel_rfl) (by kernel_rfl) (fun _ _ _ h => h) (Or.inl ⟨by rfl, ?h8⟩) hHeld ?_
                  case h8 => intro wv hSw; (try dsimp only at hSw); exact load_midF rfl (by kernel_rfl) (run_loadVar_mid (P := Tryz.prog) _ w.heap.size 8 70 [.int .i64 code, .string ⟨val.toArray⟩] _ (range_ofF hSw.x rfl) Tryz.underlying70 rfl (by kernel_rfl))
                  try simp only [Act.put, List.setIfInBounds_toArray, List.set_cons_zero, List.set_cons_succ]
                  refine wpAnyH_ready (rs := [4]) (by kernel_rfl) (by simp) ?_
                  refine AllReadyH.cons (o := { dst := some 61, op := Op.call { callee := Callee.value (Operand.func 58), args := #[Operand.tmp 60], argTypes := #[3] }, type := 9, pos := "text.go:428", after := #[{ on := 3, ground := Ground.data }], guard := none }) rfl (fun KK hK => ?_) ?_
                  · go_simp
                    go_wp2_with (go_at_call 58; refine (HI8.out h0 _ hHeld.bel).mono ?_; rintro r v2 ⟨rfl, hB2⟩)
                    have hT2 := hHeld.below hB2
                    clear hHeld hB2
                    refine hK.out _ _ hT2 (fun hHeld => ?_)
                    clear hK hT2
                    refine wpAnyH_take (i := 5) (oi := { dst := some 62, op := Op.binOp BinOp.add 9 (Operand.tmp 58) (Operand.tmp 61) 9, type := 9, pos := "text.go:428", after := #[{ on := 1, ground := Ground.data }, { on := 4, ground := Ground.data }], guard := none }) (v := .string ⟨s62.toArray⟩) rfl (by kernel_rfl) (by kernel_rfl) (by kernel_rfl) (fun _ _ _ h => h) (Or.inl ⟨by rfl, ?h5⟩) hHeld ?_
                    case h5 => intro wv hSw; (try dsimp only at hSw); go_simp; first | (rw [if_neg (by omega), cat2, HS62.out]) | (rw [cat2, HS62.out]) | (rw [if_neg (by simp only [List.length_toArray, List.size_toArray, ByteArray.size]; omega), cat2, HS62.out]) | (trace_state; sorry)
                    try simp only [Act.put, List.setIfInBounds_toArray, List.set_cons_zero, List.set_cons_succ]
                    refine wpAnyH_take (i := 6) (oi := { dst := some 63, op := Op.binOp BinOp.add 9 (Operand.tmp 62) (Operand.const (Value.string { data := #[32] })) 9, type := 9, pos := "text.go:428", after := #[{ on := 5, ground := Ground.data }], guard := none }) (v := .string ⟨s63.toArray⟩) rfl (by kernel_rfl) (by kernel_rfl) (by kernel_rfl) (fun _ _ _ h => h) (Or.inl ⟨by rfl, ?h6⟩) hHeld ?_
                    case h6 => intro wv hSw; (try dsimp only at hSw); go_simp; first | (rw [if_neg (by omega), cat2, HS63.out]) | (rw [cat2, HS63.out]) | (rw [if_neg (by simp only [List.length_toArray, List.size_toArray, ByteArray.size]; omega), cat2, HS63.out]) | (trace_state; sorry)
                    try simp only [Act.put, List.setIfInBounds_toArray, List.set_cons_zero, List.set_cons_succ]
                    refine wpAnyH_ready (rs := [9]) (by kernel_rfl) (by simp) ?_
                    refine AllReadyH.cons (o := { dst := some 66, op := Op.call { callee := Callee.value (Operand.func 28), args := #[Operand.tmp 65], argTypes := #[70] }, type := 9, pos := "text.go:428", after := #[{ on := 8, ground := Ground.data }, { on := 4, ground := Ground.chain }], guard := none }) rfl (fun KK hK => ?_) ?_
                    · go_simp
                      go_wp2_with (go_at_call 28; refine (HRP.out _).mono ?_; rintro r v1 ⟨rfl, hB1⟩)
                      have hT1 := hHeld.below hB1
                      clear hHeld hB1
                      refine hK.out _ _ hT1 (fun hHeld => ?_)
                      clear hK hT1
                      refine wpAnyH_take (i := 10) (oi := { dst := some 67, op := Op.binOp BinOp.add 9 (Operand.tmp 63) (Operand.tmp 66) 9, type := 9, pos := "text.go:428", after := #[{ on := 6, ground := Ground.data }, { on := 9, ground := Ground.data }], guard := none }) (v := .string ⟨s67.toArray⟩) rfl (by kernel_rfl) (by kernel_rfl) (by kernel_rfl) (fun _ _ _ h => h) (Or.inl ⟨by rfl, ?h10⟩) hHeld ?_
                      case h10 => intro wv hSw; (try dsimp only at hSw); go_simp; first | (rw [if_neg (by omega), cat2, HS67.out]) | (rw [cat2, HS67.out]) | (rw [if_neg (by simp only [List.length_toArray, List.size_toArray, ByteArray.size]; omega), cat2, HS67.out]) | (trace_state; sorry)
                      try simp only [Act.put, List.setIfInBounds_toArray, List.set_cons_zero, List.set_cons_succ]
                      refine wpAnyH_take (i := 11) (oi := { dst := some 2, op := Op.assign (Operand.tmp 67), type := 9, pos := "text.go:428", after := #[{ on := 10, ground := Ground.data }, { on := 9, ground := Ground.chain }, { on := 0, ground := Ground.phase }, { on := 1, ground := Ground.phase }, { on := 2, ground := Ground.phase }, { on := 3, ground := Ground.phase }, { on := 4, ground := Ground.phase }, { on := 5, ground := Ground.phase }, { on := 6, ground := Ground.phase }, { on := 7, ground := Ground.phase }, { on := 8, ground := Ground.phase }, { on := 9, ground := Ground.phase }, { on := 10, ground := Ground.phase }], guard := none }) (v := .string ⟨s67.toArray⟩) rfl (by kernel_rfl) (by kernel_rfl) (by kernel_rfl) (fun _ _ _ h => h) (Or.inl ⟨by rfl, ?h11⟩) hHeld ?_
                      case h11 => intro wv hSw; (try dsimp only at hSw); kernel_rfl
                      try simp only [Act.put, List.setIfInBounds_toArray, List.set_cons_zero, List.set_cons_succ]
                      refine wpAnyH_done (by kernel_rfl) ?_ _
                      go_wp2
                      go_ret
                      exact ⟨by rw [HE1.out]; rfl, hHeld.bel⟩
                    exact AllReadyH.nil
                  exact AllReadyH.nil
              exact AllReadyH.nil
            exact AllReadyH.nil
          exact AllReadyH.nil
        exact AllReadyH.nil
      exact AllReadyH.nil
    exact AllReadyH.nil
end Go.Proofs.YtbckogojnjmjcaaGreatDoor
