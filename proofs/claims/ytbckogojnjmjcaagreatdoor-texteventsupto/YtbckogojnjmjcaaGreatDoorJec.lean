/-
  An event's line: the program and the document tell it alike, whatever its kind. An operation's answer. Eight words joined; the word of an operation's kind.
-/
import Derived.Test.YtbckogojnjmjcaaGreatDoorE8
namespace Go.Proofs.YtbckogojnjmjcaaGreatDoor
open Go.RowKit Go.Shelf

theorem ev_any (e : Ev) (he : EvOk e) (w : World) (hv : Vars w) : Calls Tryz.prog 25 #[.agg e.cells] w fun r w' => r = .returned (.string ⟨(evL e).toArray⟩) ∧ Below w.heap.size w w' := by
  by_cases h1 : e.kind = 1
  · exact ev1_any e he h1 w hv
  by_cases h2 : e.kind = 2
  · exact ev2_any e he h2 w hv
  by_cases h3 : e.kind = 3
  · exact ev3_any e he h3 w hv
  by_cases h5 : e.kind = 5
  · exact ev5_any e he h5 w hv
  by_cases h6 : e.kind = 6
  · exact ev6_any e he h6 w hv
  by_cases h7 : e.kind = 7
  · exact ev7_any e he h7 w hv
  by_cases h8 : e.kind = 8
  · exact ev8_any e he h8 w hv
  exact evx_any e he ⟨h1, h2, h3, h5, h6, h7, h8⟩ w hv

theorem rev_any (e : Ev) (he : EvOk e) (w : World) (hv : Vars w) : Calls Tryz.prog 26 #[.agg e.cells] w fun r w' => r = .returned (.string ⟨(evL e).toArray⟩) ∧ Below w.heap.size w w' := by
  by_cases h1 : e.kind = 1
  · exact rev1_any e he h1 w hv
  by_cases h2 : e.kind = 2
  · exact rev2_any e he h2 w hv
  by_cases h3 : e.kind = 3
  · exact rev3_any e he h3 w hv
  by_cases h5 : e.kind = 5
  · exact rev5_any e he h5 w hv
  by_cases h6 : e.kind = 6
  · exact rev6_any e he h6 w hv
  by_cases h7 : e.kind = 7
  · exact rev7_any e he h7 w hv
  by_cases h8 : e.kind = 8
  · exact rev8_any e he h8 w hv
  exact revx_any e he ⟨h1, h2, h3, h5, h6, h7, h8⟩ w hv
end Go.Proofs.YtbckogojnjmjcaaGreatDoor
namespace Go.Proofs.YtbckogojnjmjcaaGreatDoor
open Go.RowKit Go.Shelf

/-- An operation. -/
structure Ox where
  client : Int
  seq : Int
  kind : Int
  key : Bs
  value : Bs
  old : Bs
  call : Int
  back : Int
  code : Int
  val : Bs
def Ox.cells (x : Ox) : Array Value := #[.int .i64 x.client, .int .i64 x.seq, .int .i64 x.kind, .string ⟨x.key.toArray⟩, .string ⟨x.value.toArray⟩, .string ⟨x.old.toArray⟩, .int .i64 x.call, .int .i64 x.back, .int .i64 x.code, .string ⟨x.val.toArray⟩]
/-- The words of its answer. -/
def ansL (x : Ox) : Bs := if x.back = 0 then [111, 112, 101, 110] else Lib.itoa x.back ++ 32 :: repL x.code x.val
/-- The operation's box, and what is below. -/
structure OS (w : World) (cs : Array Value) (V : World) : Prop where
  x : V.heap[w.heap.size]? = some (.cells cs 72 (0, 0))
  bel : Below w.heap.size w V
theorem OS.below {w V V' : World} {cs : Array Value} (h : OS w cs V) (hB : Below V.heap.size V V') : OS w cs V' := ⟨(hB.block _ (Array.getElem?_eq_some_iff.1 h.x).1).trans h.x, h.bel.trans (hB.mono h.bel.size)⟩
set_option maxRecDepth 100000 in
set_option maxHeartbeats 4000000 in
theorem answer_any (x : Ox) (hb : InZ x.back) (hvl : x.val.length ≤ 2000000) (w : World) (hv : Vars w) : Calls Tryz.prog 66 #[.agg x.cells] w fun r w' => r = .returned (.string ⟨(ansL x).toArray⟩) ∧ Below w.heap.size w w' := by
  obtain ⟨client, seq, kind, key, value, old, call, back, code, val⟩ := x
  simp only at hb hvl
  obtain ⟨W0, hW0⟩ : ∃ W0, w.alloc (.cells #[.int .i64 client, .int .i64 seq, .int .i64 kind, .string ⟨key.toArray⟩, .string ⟨value.toArray⟩, .string ⟨old.toArray⟩, .int .i64 call, .int .i64 back, .int .i64 code, .string ⟨val.toArray⟩] 72) = W0 := ⟨_, rfl⟩
  have HB0 : Hid (Below w.heap.size w W0) := by show Below _ _ _; rw [← hW0]; exact (Below.refl _ _).alloc (Nat.le_refl _) _
  have hX0 : W0.heap[w.heap.size]? = some (.cells #[.int .i64 client, .int .i64 seq, .int .i64 kind, .string ⟨key.toArray⟩, .string ⟨value.toArray⟩, .string ⟨old.toArray⟩, .int .i64 call, .int .i64 back, .int .i64 code, .string ⟨val.toArray⟩] 72 (0, 0)) := by rw [← hW0]; exact heap_alloc_new w _
  have c7 : W0.cell? ⟨w.heap.size, 7, none⟩ = some (.int .i64 back) := by simp only [World.cell?, hX0]; rfl
  have HW0 : Hid (_ = W0) := hW0
  have HX0 : Hid _ := hX0
  unfold Ox.cells
  by_cases h0 : back = 0
  · subst h0
    have HE : Hid (ansL ⟨client, seq, kind, key, value, old, call, 0, code, val⟩ = [111, 112, 101, 110]) := by show _ = _; simp [ansL]
    clear hW0 hX0
    go_enter Tryz.func66, Tryz.ntmps66
    go_upto_region 1 with fail
    rw [HW0.out]
    go_wp2_with fail
    go_ret
    exact ⟨by rw [HE.out]; rfl, HB0.out⟩
  · have HE : Hid (ansL ⟨client, seq, kind, key, value, old, call, back, code, val⟩ = Lib.itoa back ++ 32 :: repL code val) := by show _ = _; simp [ansL, h0]
    have HRP : Hid (∀ W, Calls Tryz.prog 27 #[.agg #[.int .i64 code, .string ⟨val.toArray⟩]] W fun e w' => e = .returned (.string ⟨(repL code val).toArray⟩) ∧ Below W.heap.size W w') := fun W => reply_any code val hvl W
    have hrl := repL_len code val hvl
    have hll := itoa_len back hb.1 hb.2
    have HIC : Hid (Calls Tryz.prog 58 #[.int .i64 back] W0.drew fun e w' => e = .returned (.string ⟨(Lib.itoa back).toArray⟩) ∧ Below W0.drew.heap.size W0.drew w') := itoa_any back hb.1 hb.2 _ (hv.below HB0.out.drew)
    have HS0 : Hid (OS w (#[.int .i64 client, .int .i64 seq, .int .i64 kind, .string ⟨key.toArray⟩, .string ⟨value.toArray⟩, .string ⟨old.toArray⟩, .int .i64 call, .int .i64 back, .int .i64 code, .string ⟨val.toArray⟩]) W0.drew) := ⟨hX0, HB0.out.drew⟩
    generalize Lib.itoa back = tl at *
    generalize repL code val = rp at *
    clear hW0 hX0 hv HX0
    go_enter Tryz.func66, Tryz.ntmps66
    go_upto_region 1 with fail
    rw [HW0.out]
    go_upto_region 3 with fail
    refine wp_region_held_drew (S := OS w (#[.int .i64 client, .int .i64 seq, .int .i64 kind, .string ⟨key.toArray⟩, .string ⟨value.toArray⟩, .string ⟨old.toArray⟩, .int .i64 call, .int .i64 back, .int .i64 code, .string ⟨val.toArray⟩])) (by kernel_rfl) HS0.out (fun hHeld => ?_)
    refine wpAnyH_take (i := 0) (oi := { dst := some 6, op := Op.fieldAddr 72 (Operand.tmp 1) 7, type := 0, pos := "told.go:83", after := #[], guard := none }) (v := .pointer (some ⟨w.heap.size, 7, none⟩)) rfl (by kernel_rfl) (by kernel_rfl) (by kernel_rfl) (fun _ _ _ h => h) (Or.inl ⟨by rfl, ?h0⟩) hHeld ?_
    case h0 => intro wv hSw; (try dsimp only at hSw); kernel_rfl
    try simp only [Act.put, List.setIfInBounds_toArray, List.set_cons_zero, List.set_cons_succ]
    refine wpAnyH_take (i := 1) (oi := { dst := some 7, op := Op.load 3 (Operand.tmp 6), type := 3, pos := "told.go:83", after := #[{ on := 0, ground := Ground.data }], guard := none }) (v := .int .i64 back) rfl (by kernel_rfl) (by kernel_rfl) (by kernel_rfl) (fun _ _ _ h => h) (Or.inl ⟨by rfl, ?h1⟩) hHeld ?_
    case h1 => intro wv hSw; (try dsimp only at hSw); have hc : wv.cell? ⟨w.heap.size, 7, none⟩ = some (.int .i64 back) := (by have h0 := hSw.x; simp only [World.cell?, h0]; rfl); go_simp; try with_reducible rfl
    try simp only [Act.put, List.setIfInBounds_toArray, List.set_cons_zero, List.set_cons_succ]
    refine wpAnyH_take (i := 3) (oi := { dst := some 9, op := Op.fieldAddr 72 (Operand.tmp 1) 8, type := 0, pos := "told.go:83", after := #[], guard := none }) (v := .pointer (some ⟨w.heap.size, 8, none⟩)) rfl (by kernel_rfl) (by kernel_rfl) (by kernel_rfl) (fun _ _ _ h => h) (Or.inl ⟨by rfl, ?h3⟩) hHeld ?_
    case h3 => intro wv hSw; (try dsimp only at hSw); kernel_rfl
    try simp only [Act.put, List.setIfInBounds_toArray, List.set_cons_zero, List.set_cons_succ]
    refine wpAnyH_take (i := 4) (oi := { dst := some 10, op := Op.load 70 (Operand.tmp 9), type := 70, pos := "told.go:83", after := #[{ on := 3, ground := Ground.data }], guard := none }) (v := .agg #[.int .i64 code, .string ⟨val.toArray⟩]) rfl (by kernel_rfl) (by kernel_rfl) (by kernel_rfl) (fun _ _ _ h => h) (Or.inl ⟨by rfl, ?h4⟩) hHeld ?_
    case h4 => intro wv hSw; (try dsimp only at hSw); exact load_midF rfl (by kernel_rfl) (run_loadVar_mid (P := Tryz.prog) _ w.heap.size 8 70 [.int .i64 code, .string ⟨val.toArray⟩] _ (range_ofF hSw.x rfl) Tryz.underlying70 rfl (by kernel_rfl))
    try simp only [Act.put, List.setIfInBounds_toArray, List.set_cons_zero, List.set_cons_succ]
    refine wpAnyH_ready (rs := [2]) (by kernel_rfl) (by simp) ?_
    refine AllReadyH.cons (o := { dst := some 8, op := Op.call { callee := Callee.value (Operand.func 58), args := #[Operand.tmp 7], argTypes := #[3] }, type := 9, pos := "told.go:83", after := #[{ on := 1, ground := Ground.data }], guard := none }) rfl (fun KK hK => ?_) ?_
    · go_simp
      go_wp2_with (go_at_call 58; refine HIC.out.mono ?_; rintro r w6 ⟨rfl, hB6⟩)
      have hT6 : OS w _ w6 := HS0.out.below hB6
      clear hHeld hB6
      refine hK.out _ _ hT6 (fun hHeld => ?_)
      clear hK hT6
      refine wpAnyH_ready (rs := [5]) (by kernel_rfl) (by simp) ?_
      refine AllReadyH.cons (o := { dst := some 11, op := Op.call { callee := Callee.value (Operand.func 27), args := #[Operand.tmp 10], argTypes := #[70] }, type := 9, pos := "told.go:83", after := #[{ on := 4, ground := Ground.data }, { on := 2, ground := Ground.chain }], guard := none }) rfl (fun KK hK => ?_) ?_
      · go_simp
        go_wp2_with (go_at_call 27; refine (HRP.out _).mono ?_; rintro r w7 ⟨rfl, hB7⟩)
        have hT7' := hHeld.below hB7
        clear hHeld hB7
        refine hK.out _ _ hT7' (fun hHeld => ?_)
        clear hK hT7'
        refine wpAnyH_ready (rs := [6]) (by kernel_rfl) (by simp) ?_
        refine AllReadyH.cons (o := { dst := some 12, op := Op.buildSlice 23 2 #[(0, Operand.tmp 8), (1, Operand.tmp 11)], type := 23, pos := "told.go:83", after := #[{ on := 2, ground := Ground.data }, { on := 5, ground := Ground.data }], guard := none }) rfl (fun KK hK => ?_) ?_
        · rw [if_pos (by kernel_rfl)]
          unfold Oper.wp
          refine upon_run (v := .slice (some ⟨w7.heap.size, 0, none⟩) 2 2) (W' := w7.alloc (.cells #[.string ⟨tl.toArray⟩, .string ⟨rp.toArray⟩] 9)) (by kernel_rfl) ?_
          have hT7 := hHeld
          refine hK.out _ _ (hT7.below ((Below.refl _ _).alloc (Nat.le_refl _) _)) (fun hHeld => ?_)
          clear hK
          refine wpAnyH_ready (rs := [7]) (by kernel_rfl) (by simp) ?_
          refine AllReadyH.cons (o := { dst := some 13, op := Op.call { callee := Callee.value (Operand.func 59), args := #[Operand.tmp 12], argTypes := #[23] }, type := 9, pos := "told.go:83", after := #[{ on := 6, ground := Ground.data }, { on := 5, ground := Ground.chain }], guard := none }) rfl (fun KK hK => ?_) ?_
          · go_simp
            go_wp2_with (go_at_call 59; refine (join2_any tl rp (by omega) (by omega) w7).mono ?_; rintro r w8 ⟨rfl, hB8⟩)
            have hT8 := hT7.below hB8
            clear hHeld hB8
            refine hK.out _ _ hT8 (fun hHeld => ?_)
            clear hK
            refine wpAnyH_take (i := 8) (oi := { dst := some 2, op := Op.assign (Operand.tmp 13), type := 9, pos := "told.go:83", after := #[{ on := 7, ground := Ground.data }, { on := 7, ground := Ground.chain }, { on := 0, ground := Ground.phase }, { on := 1, ground := Ground.phase }, { on := 2, ground := Ground.phase }, { on := 3, ground := Ground.phase }, { on := 4, ground := Ground.phase }, { on := 5, ground := Ground.phase }, { on := 6, ground := Ground.phase }, { on := 7, ground := Ground.phase }], guard := none }) (v := .string ⟨(tl ++ 32 :: rp).toArray⟩) rfl (by kernel_rfl) (by kernel_rfl) (by kernel_rfl) (fun _ _ _ h => h) (Or.inl ⟨by rfl, ?h8⟩) hHeld ?_
            case h8 => intro wv hSw; (try dsimp only at hSw); kernel_rfl
            try simp only [Act.put, List.setIfInBounds_toArray, List.set_cons_zero, List.set_cons_succ]
            refine wpAnyH_done (by kernel_rfl) ?_ _
            go_wp2
            go_ret
            exact ⟨by rw [HE.out]; rfl, hHeld.bel⟩
          exact AllReadyH.nil
        exact AllReadyH.nil
      exact AllReadyH.nil
    exact AllReadyH.nil
end Go.Proofs.YtbckogojnjmjcaaGreatDoor
namespace Go.Proofs.YtbckogojnjmjcaaGreatDoor
open Go.RowKit Go.Shelf

theorem own_eight (w : World) (a b c d e f g h : Bs) : SOw w.heap.size (w.alloc (.cells #[encStr a, encStr b, encStr c, encStr d, encStr e, encStr f, encStr g, encStr h] 9)) (.slice (some ⟨w.heap.size, 0, none⟩) 8 8) [a, b, c, d, e, f, g, h] := by
  refine ⟨rfl, .inr ⟨w.heap.size, 8, #[encStr a, encStr b, encStr c, encStr d, encStr e, encStr f, encStr g, encStr h], rfl, Nat.le_refl _, heap_alloc_new w _, by simp, by unfold maxLen; decide, by simp, by simp⟩⟩
theorem join_eight_len (a b c d e f g h : Bs) : (Lib.join [a, b, c, d, e, f, g, h] [32]).length = a.length + b.length + c.length + d.length + e.length + f.length + g.length + h.length + 7 := by
  simp [Lib.join, List.intercalate]
  omega
theorem join8_any (a b c d e f g h : Bs) (hl : a.length + b.length + c.length + d.length + e.length + f.length + g.length + h.length ≤ 900000000) (w : World) : Calls Tryz.prog 59 #[.slice (some ⟨w.heap.size, 0, none⟩) 8 8] (w.alloc (.cells #[.string ⟨a.toArray⟩, .string ⟨b.toArray⟩, .string ⟨c.toArray⟩, .string ⟨d.toArray⟩, .string ⟨e.toArray⟩, .string ⟨f.toArray⟩, .string ⟨g.toArray⟩, .string ⟨h.toArray⟩] 9)) fun r w' => r = .returned (.string ⟨(Lib.join [a, b, c, d, e, f, g, h] [32]).toArray⟩) ∧ Below w.heap.size w w' := by
  refine (join_any w.heap.size _ _ [a, b, c, d, e, f, g, h] (own_eight w a b c d e f g h) (by simp) (by rw [join_eight_len]; omega)).mono ?_
  rintro r w' ⟨h1, h2⟩
  exact ⟨h1, ((Below.refl _ _).alloc (Nat.le_refl _) _).trans (h2.mono (by simp))⟩
theorem op_word (kind : Int) (W : World) (g : Nat) (h1 : g < W.heap.size) (h2 : StrAt W g opsL) : Calls Tryz.prog 63 #[.agg #[.int .i64 1, .slice (some ⟨g, 0, none⟩) 4 4], .int .i64 kind] W fun e w' => e = .returned (.string ⟨(wordOf 1 opsL kind).toArray⟩) ∧ Below W.heap.size W w' := names_word W 1 (by decide) g 4 opsL (by decide) h1 h2 kind
/-- An operation's line. -/
def opL (x : Ox) : Bs := Lib.join [Lib.itoa x.client, Lib.itoa x.seq, wordOf 1 opsL x.kind, quoteL x.key, quoteL x.value, quoteL x.old, Lib.itoa x.call, ansL x] [32]
theorem quote_len (s : Bs) (h : s.length ≤ 2000000) : (quoteL s).length ≤ 8000002 := by
  unfold quoteL
  split
  · omega
  · have := (flat_len s).2
    simp only [List.length_cons, List.length_append, List.length_nil]
    omega
theorem ansL_len (x : Ox) (hb : InZ x.back) (h : x.val.length ≤ 2000000) : (ansL x).length ≤ 9000100 := by
  have h1 := repL_len x.code x.val h
  have h2 := itoa_len x.back hb.1 hb.2
  unfold ansL
  split
  · simp
  · simp only [List.length_append, List.length_cons]; omega
end Go.Proofs.YtbckogojnjmjcaaGreatDoor
