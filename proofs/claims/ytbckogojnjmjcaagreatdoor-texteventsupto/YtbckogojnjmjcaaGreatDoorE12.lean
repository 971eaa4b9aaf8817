/-
  An operation's line.
-/
import Derived.Test.YtbckogojnjmjcaaGreatDoorJec
namespace Go.Proofs.YtbckogojnjmjcaaGreatDoor
open Go.RowKit Go.Shelf

theorem op_word_len (kind : Int) : (wordOf 1 opsL kind).length ≤ 10 := by
  unfold wordOf
  split
  · have key : ∀ k : Nat, (opsL.getD k []).length ≤ 10 := fun k => by
      by_cases hk : k < 4
      · have : k = 0 ∨ k = 1 ∨ k = 2 ∨ k = 3 := by omega
        rcases this with rfl | rfl | rfl | rfl <;> decide
      · rw [List.getD_eq_getElem?_getD, List.getElem?_eq_none (by simpa [opsL] using hk)]
        simp
    exact key _
  · decide
/-- What may be told of an operation. -/
structure OxOk (x : Ox) : Prop where
  client : InZ x.client
  seq : InZ x.seq
  call : InZ x.call
  back : InZ x.back
  key : x.key.length ≤ 2000000
  value : x.value.length ≤ 2000000
  old : x.old.length ≤ 2000000
  val : x.val.length ≤ 2000000
set_option maxRecDepth 100000 in
set_option maxHeartbeats 4000000 in
theorem formatOp_any (x : Ox) (hx : OxOk x) (w : World) (hv : Vars w) : Calls Tryz.prog 31 #[.agg x.cells] w fun r w' => r = .returned (.string ⟨(opL x).toArray⟩) ∧ Below w.heap.size w w' := by
  have hal := ansL_len x hx.back hx.val
  have HAN : Hid (∀ W, Below w.heap.size w W → Calls Tryz.prog 66 #[.agg x.cells] W fun r w' => r = .returned (.string ⟨(ansL x).toArray⟩) ∧ Below W.heap.size W w') := fun W h => answer_any x hx.back hx.val W (hv.below h)
  have hoc := hx.client
  have hos := hx.seq
  have hoa := hx.call
  have hok := hx.key
  have hov := hx.value
  have hoo := hx.old
  have HE : Hid (opL x = Lib.join [Lib.itoa x.client, Lib.itoa x.seq, wordOf 1 opsL x.kind, quoteL x.key, quoteL x.value, quoteL x.old, Lib.itoa x.call, ansL x] [32]) := rfl
  generalize opL x = ol at *
  generalize ansL x = s8 at *
  clear hx
  obtain ⟨client, seq, kind, key, value, old, call, back, code, val⟩ := x
  simp only at hoc hos hoa hok hov hoo HE
  unfold Ox.cells at *
  obtain ⟨W0, hW0⟩ : ∃ W0, w.alloc (.cells #[.int .i64 client, .int .i64 seq, .int .i64 kind, .string ⟨key.toArray⟩, .string ⟨value.toArray⟩, .string ⟨old.toArray⟩, .int .i64 call, .int .i64 back, .int .i64 code, .string ⟨val.toArray⟩] 72) = W0 := ⟨_, rfl⟩
  have HB0 : Hid (Below w.heap.size w W0) := by show Below _ _ _; rw [← hW0]; exact (Below.refl _ _).alloc (Nat.le_refl _) _
  have hX0 : W0.heap[w.heap.size]? = some (.cells #[.int .i64 client, .int .i64 seq, .int .i64 kind, .string ⟨key.toArray⟩, .string ⟨value.toArray⟩, .string ⟨old.toArray⟩, .int .i64 call, .int .i64 back, .int .i64 code, .string ⟨val.toArray⟩] 72 (0, 0)) := by rw [← hW0]; exact heap_alloc_new w _
  have HW0 : Hid (_ = W0) := hW0
  have HS0 : Hid (OS w (#[.int .i64 client, .int .i64 seq, .int .i64 kind, .string ⟨key.toArray⟩, .string ⟨value.toArray⟩, .string ⟨old.toArray⟩, .int .i64 call, .int .i64 back, .int .i64 code, .string ⟨val.toArray⟩]) W0.drew) := ⟨hX0, HB0.out.drew⟩
  have HI1 : Hid (∀ W, Below w.heap.size w W → Calls Tryz.prog 58 #[.int .i64 client] W fun e w' => e = .returned (.string ⟨(Lib.itoa client).toArray⟩) ∧ Below W.heap.size W w') := fun W h => itoa_any client hoc.1 hoc.2 W (hv.below h)
  have HI2 : Hid (∀ W, Below w.heap.size w W → Calls Tryz.prog 58 #[.int .i64 seq] W fun e w' => e = .returned (.string ⟨(Lib.itoa seq).toArray⟩) ∧ Below W.heap.size W w') := fun W h => itoa_any seq hos.1 hos.2 W (hv.below h)
  have HI7 : Hid (∀ W, Below w.heap.size w W → Calls Tryz.prog 58 #[.int .i64 call] W fun e w' => e = .returned (.string ⟨(Lib.itoa call).toArray⟩) ∧ Below W.heap.size W w') := fun W h => itoa_any call hoa.1 hoa.2 W (hv.below h)
  have HQ4 : Hid (∀ W, Calls Tryz.prog 12 #[.string ⟨key.toArray⟩] W fun e w' => e = .returned (.string ⟨(quoteL key).toArray⟩) ∧ Below W.heap.size W w') := fun W => quote_big key hok W
  have HQ5 : Hid (∀ W, Calls Tryz.prog 12 #[.string ⟨value.toArray⟩] W fun e w' => e = .returned (.string ⟨(quoteL value).toArray⟩) ∧ Below W.heap.size W w') := fun W => quote_big value hov W
  have HQ6 : Hid (∀ W, Calls Tryz.prog 12 #[.string ⟨old.toArray⟩] W fun e w' => e = .returned (.string ⟨(quoteL old).toArray⟩) ∧ Below W.heap.size W w') := fun W => quote_big old hoo W
  have HOP : Hid (∀ W, Calls Tryz.prog 65 #[] W fun e w' => ∃ g, e = .returned (.agg #[.int .i64 1, .slice (some ⟨g, 0, none⟩) 4 4]) ∧ Hid (g < w'.heap.size) ∧ Hid (StrAt w' g opsL) ∧ Below W.heap.size W w') := fun W => ops_at W
  have HNW : Hid (∀ W g, g < W.heap.size → StrAt W g opsL → Calls Tryz.prog 63 #[.agg #[.int .i64 1, .slice (some ⟨g, 0, none⟩) 4 4], .int .i64 kind] W fun e w' => e = .returned (.string ⟨(wordOf 1 opsL kind).toArray⟩) ∧ Below W.heap.size W w') := fun W g h1 h2 => op_word kind W g h1 h2
  have hl1 := itoa_len client hoc.1 hoc.2
  have hl2 := itoa_len seq hos.1 hos.2
  have hl7 := itoa_len call hoa.1 hoa.2
  have hl3 := op_word_len kind
  have hl4 := quote_len key hok
  have hl5 := quote_len value hov
  have hl6 := quote_len old hoo
  clear hW0 hX0 hv hoc hos hoa hok hov hoo
  generalize Lib.itoa client = s1 at *
  generalize Lib.itoa seq = s2 at *
  generalize Lib.itoa call = s7 at *
  generalize wordOf 1 opsL kind = s3 at *
  generalize quoteL key = s4 at *
  generalize quoteL value = s5 at *
  generalize quoteL old = s6 at *
  go_enter Tryz.func31, Tryz.ntmps31
  go_upto_region 1 with fail
  rw [HW0.out]
  refine wp_region_held_drew (S := OS w (#[.int .i64 client, .int .i64 seq, .int .i64 kind, .string ⟨key.toArray⟩, .string ⟨value.toArray⟩, .string ⟨old.toArray⟩, .int .i64 call, .int .i64 back, .int .i64 code, .string ⟨val.toArray⟩])) (by kernel_rfl) HS0.out (fun hHeld => ?_)
  refine wpAnyH_take (i := 0) (oi := { dst := some 3, op := Op.fieldAddr 72 (Operand.tmp 1) 0, type := 0, pos := "told.go:71", after := #[], guard := none }) (v := .pointer (some ⟨w.heap.size, 0, none⟩)) rfl (by kernel_rfl) (by kernel_rfl) (by kernel_rfl) (fun _ _ _ h => h) (Or.inl ⟨by rfl, ?h0⟩) hHeld ?_
  case h0 => intro wv hSw; (try dsimp only at hSw); kernel_rfl
  try simp only [Act.put, List.setIfInBounds_toArray, List.set_cons_zero, List.set_cons_succ]
  refine wpAnyH_take (i := 1) (oi := { dst := some 4, op := Op.load 3 (Operand.tmp 3), type := 3, pos := "told.go:71", after := #[{ on := 0, ground := Ground.data }], guard := none }) (v := .int .i64 client) rfl (by kernel_rfl) (by kernel_rfl) (by kernel_rfl) (fun _ _ _ h => h) (Or.inl ⟨by rfl, ?h1⟩) hHeld ?_
  case h1 => intro wv hSw; (try dsimp only at hSw); have hc : wv.cell? ⟨w.heap.size, 0, none⟩ = some (.int .i64 client) := (by have h0 := hSw.x; simp only [World.cell?, h0]; rfl); go_simp; try with_reducible rfl
  try simp only [Act.put, List.setIfInBounds_toArray, List.set_cons_zero, List.set_cons_succ]
  refine wpAnyH_take (i := 3) (oi := { dst := some 6, op := Op.fieldAddr 72 (Operand.tmp 1) 1, type := 0, pos := "told.go:71", after := #[], guard := none }) (v := .pointer (some ⟨w.heap.size, 1, none⟩)) rfl (by kernel_rfl) (by kernel_rfl) (by kernel_rfl) (fun _ _ _ h => h) (Or.inl ⟨by rfl, ?h3⟩) hHeld ?_
  case h3 => intro wv hSw; (try dsimp only at hSw); kernel_rfl
  try simp only [Act.put, List.setIfInBounds_toArray, List.set_cons_zero, List.set_cons_succ]
  refine wpAnyH_take (i := 4) (oi := { dst := some 7, op := Op.load 3 (Operand.tmp 6), type := 3, pos := "told.go:71", after := #[{ on := 3, ground := Ground.data }], guard := none }) (v := .int .i64 seq) rfl (by kernel_rfl) (by kernel_rfl) (by kernel_rfl) (fun _ _ _ h => h) (Or.inl ⟨by rfl, ?h4⟩) hHeld ?_
  case h4 => intro wv hSw; (try dsimp only at hSw); have hc : wv.cell? ⟨w.heap.size, 1, none⟩ = some (.int .i64 seq) := (by have h0 := hSw.x; simp only [World.cell?, h0]; rfl); go_simp; try with_reducible rfl
  try simp only [Act.put, List.setIfInBounds_toArray, List.set_cons_zero, List.set_cons_succ]
  refine wpAnyH_take (i := 7) (oi := { dst := some 10, op := Op.fieldAddr 72 (Operand.tmp 1) 2, type := 0, pos := "told.go:71", after := #[], guard := none }) (v := .pointer (some ⟨w.heap.size, 2, none⟩)) rfl (by kernel_rfl) (by kernel_rfl) (by kernel_rfl) (fun _ _ _ h => h) (Or.inl ⟨by rfl, ?h7⟩) hHeld ?_
  case h7 => intro wv hSw; (try dsimp only at hSw); kernel_rfl
  try simp only [Act.put, List.setIfInBounds_toArray, List.set_cons_zero, List.set_cons_succ]
  refine wpAnyH_take (i := 8) (oi := { dst := some 11, op := Op.load 3 (Operand.tmp 10), type := 3, pos := "told.go:71", after := #[{ on := 7, ground := Ground.data }], guard := none }) (v := .int .i64 kind) rfl (by kernel_rfl) (by kernel_rfl) (by kernel_rfl) (fun _ _ _ h => h) (Or.inl ⟨by rfl, ?h8⟩) hHeld ?_
  case h8 => intro wv hSw; (try dsimp only at hSw); have hc : wv.cell? ⟨w.heap.size, 2, none⟩ = some (.int .i64 kind) := (by have h0 := hSw.x; simp only [World.cell?, h0]; rfl); go_simp; try with_reducible rfl
  try simp only [Act.put, List.setIfInBounds_toArray, List.set_cons_zero, List.set_cons_succ]
  refine wpAnyH_take (i := 10) (oi := { dst := some 13, op := Op.fieldAddr 72 (Operand.tmp 1) 3, type := 0, pos := "told.go:71", after := #[], guard := none }) (v := .pointer (some ⟨w.heap.size, 3, none⟩)) rfl (by kernel_rfl) (by kernel_rfl) (by kernel_rfl) (fun _ _ _ h => h) (Or.inl ⟨by rfl, ?h10⟩) hHeld ?_
  case h10 => intro wv hSw; (try dsimp only at hSw); kernel_rfl
  try simp only [Act.put, List.setIfInBounds_toArray, List.set_cons_zero, List.set_cons_succ]
  refine wpAnyH_take (i := 11) (oi := { dst := some 14, op := Op.load 9 (Operand.tmp 13), type := 9, pos := "told.go:71", after := #[{ on := 10, ground := Ground.data }], guard := none }) (v := .string ⟨key.toArray⟩) rfl (by kernel_rfl) (by kernel_rfl) (by kernel_rfl) (fun _ _ _ h => h) (Or.inl ⟨by rfl, ?h11⟩) hHeld ?_
  case h11 => intro wv hSw; (try dsimp only at hSw); have hc : wv.cell? ⟨w.heap.size, 3, none⟩ = some (.string ⟨key.toArray⟩) := (by have h0 := hSw.x; simp only [World.cell?, h0]; rfl); go_simp; try with_reducible rfl
  try simp only [Act.put, List.setIfInBounds_toArray, List.set_cons_zero, List.set_cons_succ]
  refine wpAnyH_take (i := 13) (oi := { dst := some 16, op := Op.fieldAddr 72 (Operand.tmp 1) 4, type := 0, pos := "told.go:71", after := #[], guard := none }) (v := .pointer (some ⟨w.heap.size, 4, none⟩)) rfl (by kernel_rfl) (by kernel_rfl) (by kernel_rfl) (fun _ _ _ h => h) (Or.inl ⟨by rfl, ?h13⟩) hHeld ?_
  case h13 => intro wv hSw; (try dsimp only at hSw); kernel_rfl
  try simp only [Act.put, List.setIfInBounds_toArray, List.set_cons_zero, List.set_cons_succ]
  refine wpAnyH_take (i := 14) (oi := { dst := some 17, op := Op.load 9 (Operand.tmp 16), type := 9, pos := "told.go:71", after := #[{ on := 13, ground := Ground.data }], guard := none }) (v := .string ⟨value.toArray⟩) rfl (by kernel_rfl) (by kernel_rfl) (by kernel_rfl) (fun _ _ _ h => h) (Or.inl ⟨by rfl, ?h14⟩) hHeld ?_
  case h14 => intro wv hSw; (try dsimp only at hSw); have hc : wv.cell? ⟨w.heap.size, 4, none⟩ = some (.string ⟨value.toArray⟩) := (by have h0 := hSw.x; simp only [World.cell?, h0]; rfl); go_simp; try with_reducible rfl
  try simp only [Act.put, List.setIfInBounds_toArray, List.set_cons_zero, List.set_cons_succ]
  refine wpAnyH_take (i := 16) (oi := { dst := some 19, op := Op.fieldAddr 72 (Operand.tmp 1) 5, type := 0, pos := "told.go:71", after := #[], guard := none }) (v := .pointer (some ⟨w.heap.size, 5, none⟩)) rfl (by kernel_rfl) (by kernel_rfl) (by kernel_rfl) (fun _ _ _ h => h) (Or.inl ⟨by rfl, ?h16⟩) hHeld ?_
  case h16 => intro wv hSw; (try dsimp only at hSw); kernel_rfl
  try simp only [Act.put, List.setIfInBounds_toArray, List.set_cons_zero, List.set_cons_succ]
  refine wpAnyH_take (i := 17) (oi := { dst := some 20, op := Op.load 9 (Operand.tmp 19), type := 9, pos := "told.go:71", after := #[{ on := 16, ground := Ground.data }], guard := none }) (v := .string ⟨old.toArray⟩) rfl (by kernel_rfl) (by kernel_rfl) (by kernel_rfl) (fun _ _ _ h => h) (Or.inl ⟨by rfl, ?h17⟩) hHeld ?_
  case h17 => intro wv hSw; (try dsimp only at hSw); have hc : wv.cell? ⟨w.heap.size, 5, none⟩ = some (.string ⟨old.toArray⟩) := (by have h0 := hSw.x; simp only [World.cell?, h0]; rfl); go_simp; try with_reducible rfl
  try simp only [Act.put, List.setIfInBounds_toArray, List.set_cons_zero, List.set_cons_succ]
  refine wpAnyH_take (i := 19) (oi := { dst := some 22, op := Op.fieldAddr 72 (Operand.tmp 1) 6, type := 0, pos := "told.go:71", after := #[], guard := none }) (v := .pointer (some ⟨w.heap.size, 6, none⟩)) rfl (by kernel_rfl) (by kernel_rfl) (by kernel_rfl) (fun _ _ _ h => h) (Or.inl ⟨by rfl, ?h19⟩) hHeld ?_
  case h19 => intro wv hSw; (try dsimp only at hSw); kernel_rfl
  try simp only [Act.put, List.setIfInBounds_toArray, List.set_cons_zero, List.set_cons_succ]
  refine wpAnyH_take (i := 20) (oi := { dst := some 23, op := Op.load 3 (Operand.tmp 22), type := 3, pos := "told.go:71", after := #[{ on := 19, ground := Ground.data }], guard := none }) (v := .int .i64 call) rfl (by kernel_rfl) (by kernel_rfl) (by kernel_rfl) (fun _ _ _ h => h) (Or.inl ⟨by rfl, ?h20⟩) hHeld ?_
  case h20 => intro wv hSw; (try dsimp only at hSw); have hc : wv.cell? ⟨w.heap.size, 6, none⟩ = some (.int .i64 call) := (by have h0 := hSw.x; simp only [World.cell?, h0]; rfl); go_simp; try with_reducible rfl
  try simp only [Act.put, List.setIfInBounds_toArray, List.set_cons_zero, List.set_cons_succ]
  refine wpAnyH_take (i := 22) (oi := { dst := some 25, op := Op.load 72 (Operand.tmp 1), type := 72, pos := "told.go:71", after := #[], guard := none }) (v := .agg #[.int .i64 client, .int .i64 seq, .int .i64 kind, .string ⟨key.toArray⟩, .string ⟨value.toArray⟩, .string ⟨old.toArray⟩, .int .i64 call, .int .i64 back, .int .i64 code, .string ⟨val.toArray⟩]) rfl (by kernel_rfl) (by kernel_rfl) (by kernel_rfl) (fun _ _ _ h => h) (Or.inl ⟨by rfl, ?h22⟩) hHeld ?_
  case h22 => intro wv hSw; (try dsimp only at hSw); exact load_midF rfl (by kernel_rfl) (run_loadVar_mid (P := Tryz.prog) _ w.heap.size 0 72 [.int .i64 client, .int .i64 seq, .int .i64 kind, .string ⟨key.toArray⟩, .string ⟨value.toArray⟩, .string ⟨old.toArray⟩, .int .i64 call, .int .i64 back, .int .i64 code, .string ⟨val.toArray⟩] _ (range_ofF hSw.x rfl) Tryz.underlying72 rfl (by kernel_rfl))
  try simp only [Act.put, List.setIfInBounds_toArray, List.set_cons_zero, List.set_cons_succ]
  refine wpAnyH_ready (rs := [2]) (by kernel_rfl) (by simp) ?_
  refine AllReadyH.cons (o := { dst := some 5, op := Op.call { callee := Callee.value (Operand.func 58), args := #[Operand.tmp 4], argTypes := #[3] }, type := 9, pos := "told.go:72", after := #[{ on := 1, ground := Ground.data }], guard := none }) rfl (fun KK hK => ?_) ?_
  · go_simp
    go_wp2_with (go_at_call 58; refine (HI1.out _ hHeld.bel).mono ?_; rintro r v1 ⟨rfl, hB1⟩)
    have hT1 := hHeld.below hB1
    clear hHeld hB1
    refine hK.out _ _ hT1 (fun hHeld => ?_)
    clear hK hT1
    refine wpAnyH_ready (rs := [5]) (by kernel_rfl) (by simp) ?_
    refine AllReadyH.cons (o := { dst := some 8, op := Op.call { callee := Callee.value (Operand.func 58), args := #[Operand.tmp 7], argTypes := #[3] }, type := 9, pos := "told.go:72", after := #[{ on := 4, ground := Ground.data }, { on := 2, ground := Ground.chain }], guard := none }) rfl (fun KK hK => ?_) ?_
    · go_simp
      go_wp2_with (go_at_call 58; refine (HI2.out _ hHeld.bel).mono ?_; rintro r v2 ⟨rfl, hB2⟩)
      have hT2 := hHeld.below hB2
      clear hHeld hB2
      refine hK.out _ _ hT2 (fun hHeld => ?_)
      clear hK hT2
      refine wpAnyH_ready (rs := [6]) (by kernel_rfl) (by simp) ?_
      refine AllReadyH.cons (o := { dst := some 9, op := Op.call { callee := Callee.value (Operand.func 65), args := #[], argTypes := #[] }, type := 141, pos := "told.go:72", after := #[{ on := 5, ground := Ground.chain }], guard := none }) rfl (fun KK hK => ?_) ?_
      · go_simp
        go_wp2_with (go_at_call 65; refine (HOP.out _).mono ?_; rintro r v3 ⟨g, rfl, HG, HS, hB3⟩)
        have hT3 := hHeld.below hB3
        clear hHeld hB3
        refine hK.out _ _ hT3 (fun hHeld => ?_)
        clear hK hT3
        refine wpAnyH_ready (rs := [9]) (by kernel_rfl) (by simp) ?_
        refine AllReadyH.cons (o := { dst := some 12, op := Op.call { callee := Callee.value (Operand.func 63), args := #[Operand.tmp 9, Operand.tmp 11], argTypes := #[141, 3] }, type := 9, pos := "told.go:72", after := #[{ on := 6, ground := Ground.data }, { on := 8, ground := Ground.data }, { on := 6, ground := Ground.chain }], guard := none }) rfl (fun KK hK => ?_) ?_
        · go_simp
          go_wp2_with (go_at_call 63; refine (HNW.out _ g HG.out HS.out).mono ?_; rintro r v4 ⟨rfl, hB4⟩)
          have hT4 := hHeld.below hB4
          clear hHeld hB4
          refine hK.out _ _ hT4 (fun hHeld => ?_)
          clear hK hT4
          clear HG HS
          refine wpAnyH_ready (rs := [12]) (by kernel_rfl) (by simp) ?_
          refine AllReadyH.cons (o := { dst := some 15, op := Op.call { callee := Callee.value (Operand.func 12), args := #[Operand.tmp 14], argTypes := #[9] }, type := 9, pos := "told.go:73", after := #[{ on := 11, ground := Ground.data }, { on := 9, ground := Ground.chain }], guard := none }) rfl (fun KK hK => ?_) ?_
          · go_simp
            go_wp2_with (go_at_call 12; refine (HQ4.out _).mono ?_; rintro r v5 ⟨rfl, hB5⟩)
            have hT5 := hHeld.below hB5
            clear hHeld hB5
            refine hK.out _ _ hT5 (fun hHeld => ?_)
            clear hK hT5
            refine wpAnyH_ready (rs := [15]) (by kernel_rfl) (by simp) ?_
            refine AllReadyH.cons (o := { dst := some 18, op := Op.call { callee := Callee.value (Operand.func 12), args := #[Operand.tmp 17], argTypes := #[9] }, type := 9, pos := "told.go:73", after := #[{ on := 14, ground := Ground.data }, { on := 12, ground := Ground.chain }], guard := none }) rfl (fun KK hK => ?_) ?_
            · go_simp
              go_wp2_with (go_at_call 12; refine (HQ5.out _).mono ?_; rintro r v6 ⟨rfl, hB6⟩)
              have hT6 := hHeld.below hB6
              clear hHeld hB6
              refine hK.out _ _ hT6 (fun hHeld => ?_)
              clear hK hT6
              refine wpAnyH_ready (rs := [18]) (by kernel_rfl) (by simp) ?_
              refine AllReadyH.cons (o := { dst := some 21, op := Op.call { callee := Callee.value (Operand.func 12), args := #[Operand.tmp 20], argTypes := #[9] }, type := 9, pos := "told.go:73", after := #[{ on := 17, ground := Ground.data }, { on := 15, ground := Ground.chain }], guard := none }) rfl (fun KK hK => ?_) ?_
              · go_simp
                go_wp2_with (go_at_call 12; refine (HQ6.out _).mono ?_; rintro r v7 ⟨rfl, hB7⟩)
                have hT7 := hHeld.below hB7
                clear hHeld hB7
                refine hK.out _ _ hT7 (fun hHeld => ?_)
                clear hK hT7
                refine wpAnyH_ready (rs := [21]) (by kernel_rfl) (by simp) ?_
                refine AllReadyH.cons (o := { dst := some 24, op := Op.call { callee := Callee.value (Operand.func 58), args := #[Operand.tmp 23], argTypes := #[3] }, type := 9, pos := "told.go:74", after := #[{ on := 20, ground := Ground.data }, { on := 18, ground := Ground.chain }], guard := none }) rfl (fun KK hK => ?_) ?_
                · go_simp
                  go_wp2_with (go_at_call 58; refine (HI7.out _ hHeld.bel).mono ?_; rintro r v8 ⟨rfl, hB8⟩)
                  have hT8 := hHeld.below hB8
                  clear hHeld hB8
                  refine hK.out _ _ hT8 (fun hHeld => ?_)
                  clear hK hT8
                  refine wpAnyH_ready (rs := [23]) (by kernel_rfl) (by simp) ?_
                  refine AllReadyH.cons (o := { dst := some 26, op := Op.call { callee := Callee.value (Operand.func 66), args := #[Operand.tmp 25], argTypes := #[72] }, type := 9, pos := "told.go:74", after := #[{ on := 22, ground := Ground.data }, { on := 21, ground := Ground.chain }], guard := none }) rfl (fun KK hK => ?_) ?_
                  · go_simp
                    go_wp2_with (go_at_call 66; refine (HAN.out _ hHeld.bel).mono ?_; rintro r v9 ⟨rfl, hB9⟩)
                    have hT9 := hHeld.below hB9
                    clear hHeld hB9
                    refine hK.out _ _ hT9 (fun hHeld => ?_)
                    clear hK hT9
                    refine wpAnyH_ready (rs := [24]) (by kernel_rfl) (by simp) ?_
                    refine AllReadyH.cons (o := { dst := some 27, op := Op.buildSlice 23 8 #[(0, Operand.tmp 5), (1, Operand.tmp 8), (2, Operand.tmp 12), (3, Operand.tmp 15), (4, Operand.tmp 18), (5, Operand.tmp 21), (6, Operand.tmp 24), (7, Operand.tmp 26)], type := 23, pos := "told.go:71", after := #[{ on := 2, ground := Ground.data }, { on := 5, ground := Ground.data }, { on := 9, ground := Ground.data }, { on := 12, ground := Ground.data }, { on := 15, ground := Ground.data }, { on := 18, ground := Ground.data }, { on := 21, ground := Ground.data }, { on := 23, ground := Ground.data }], guard := none }) rfl (fun KK hK => ?_) ?_
                    · rw [if_pos (by kernel_rfl)]
                      unfold Oper.wp
                      refine upon_run (v := .slice (some ⟨v9.heap.size, 0, none⟩) 8 8) (W' := v9.alloc (.cells #[.string ⟨s1.toArray⟩, .string ⟨s2.toArray⟩, .string ⟨s3.toArray⟩, .string ⟨s4.toArray⟩, .string ⟨s5.toArray⟩, .string ⟨s6.toArray⟩, .string ⟨s7.toArray⟩, .string ⟨s8.toArray⟩] 9)) (by kernel_rfl) ?_
                      have hT9 := hHeld
                      refine hK.out _ _ (hT9.below ((Below.refl _ _).alloc (Nat.le_refl _) _)) (fun hHeld => ?_)
                      clear hK
                      refine wpAnyH_ready (rs := [25]) (by kernel_rfl) (by simp) ?_
                      refine AllReadyH.cons (o := { dst := some 28, op := Op.call { callee := Callee.value (Operand.func 59), args := #[Operand.tmp 27], argTypes := #[23] }, type := 9, pos := "told.go:71", after := #[{ on := 24, ground := Ground.data }, { on := 23, ground := Ground.chain }], guard := none }) rfl (fun KK hK => ?_) ?_
                      · go_simp
                        go_wp2_with (go_at_call 59; refine (join8_any s1 s2 s3 s4 s5 s6 s7 s8 (by omega) v9).mono ?_; rintro r v10 ⟨rfl, hB10⟩)
                        have hT10 := hT9.below hB10
                        clear hHeld hB10
                        refine hK.out _ _ hT10 (fun hHeld => ?_)
                        clear hK
                        refine wpAnyH_take (i := 26) (oi := { dst := some 2, op := Op.assign (Operand.tmp 28), type := 9, pos := "told.go:71", after := #[{ on := 25, ground := Ground.data }, { on := 25, ground := Ground.chain }, { on := 0, ground := Ground.phase }, { on := 1, ground := Ground.phase }, { on := 2, ground := Ground.phase }, { on := 3, ground := Ground.phase }, { on := 4, ground := Ground.phase }, { on := 5, ground := Ground.phase }, { on := 6, ground := Ground.phase }, { on := 7, ground := Ground.phase }, { on := 8, ground := Ground.phase }, { on := 9, ground := Ground.phase }, { on := 10, ground := Ground.phase }, { on := 11, ground := Ground.phase }, { on := 12, ground := Ground.phase }, { on := 13, ground := Ground.phase }, { on := 14, ground := Ground.phase }, { on := 15, ground := Ground.phase }, { on := 16, ground := Ground.phase }, { on := 17, ground := Ground.phase }, { on := 18, ground := Ground.phase }, { on := 19, ground := Ground.phase }, { on := 20, ground := Ground.phase }, { on := 21, ground := Ground.phase }, { on := 22, ground := Ground.phase }, { on := 23, ground := Ground.phase }, { on := 24, ground := Ground.phase }, { on := 25, ground := Ground.phase }], guard := none }) (v := .string ⟨(Lib.join [s1, s2, s3, s4, s5, s6, s7, s8] [32]).toArray⟩) rfl (by kernel_rfl) (by kernel_rfl) (by kernel_rfl) (fun _ _ _ h => h) (Or.inl ⟨by rfl, ?h26⟩) hHeld ?_
                        case h26 => intro wv hSw; (try dsimp only at hSw); kernel_rfl
                        try simp only [Act.put, List.setIfInBounds_toArray, List.set_cons_zero, List.set_cons_succ]
                        refine wpAnyH_done (by kernel_rfl) ?_ _
                        go_wp2
                        go_ret
                        exact ⟨by rw [HE.out]; rfl, hHeld.bel⟩
                      exact AllReadyH.nil
                    exact AllReadyH.nil
                  exact AllReadyH.nil
                exact AllReadyH.nil
              exact AllReadyH.nil
            exact AllReadyH.nil
          exact AllReadyH.nil
        exact AllReadyH.nil
      exact AllReadyH.nil
    exact AllReadyH.nil
  exact AllReadyH.nil
end Go.Proofs.YtbckogojnjmjcaaGreatDoor
