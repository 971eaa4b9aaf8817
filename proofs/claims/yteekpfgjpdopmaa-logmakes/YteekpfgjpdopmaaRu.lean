/-
  The document's log: Entries.
-/
import Derived.Test.YteekpfgjpdopmaaRn
import Derived.Test.YteekpfgjpdopmaaEn
import Derived.Deep.RegionHeld3
namespace Go.Proofs.Yteekpfgjpdopmaa
open Go.RowKit
set_option linter.unusedVariables false

set_option maxRecDepth 100000 in
set_option maxHeartbeats 4000000 in
/-- Entries. -/
theorem REntries_any {N : Nat} {S : Nat → Prop} {w : World} {b : Nat} {P : PL} (h : Rg N S w b P) (i most : Int) (hi : i ≤ 9223372036854775807) :
    Calls Try.prog 58 #[.pointer (some ⟨b, 0, none⟩), .int .i64 i, .int .i64 most] w fun e w' => ∃ v fs, e = .returned (.tuple #[v, .int .i64 (enE P i : Int)]) ∧ EntsOw w.heap.size w' v fs ∧ fs.map Ent.says = enL P i most ∧ Below w.heap.size w w' := by
  obtain ⟨va, vc, hvc, hvm, hsh, hcs, hcp⟩ := h.copy
  have HL : Hid (Calls _ _ _ _ _) := RLast_any h
  have hlim := h.ok.lim
  have hb0 := h.ok.b0
  have hl2 := h.ok.len
  have HCS : Hid (∀ w1, Below w.heap.size w w1 → _) := hcs
  obtain ⟨⟨k0, -, k2, -, -, -, -, -⟩, kf, kb⟩ := hcs w (Below.refl _ _)
  have hli : P.li = P.bi + (P.E.length : Int) := rfl
  clear h hcs
  by_cases h1 : i ≤ P.bi
  · have e1 : enE P i = 14 := by unfold enE; rw [if_pos h1]
    have e2 : enL P i most = [] := by unfold enL; rw [if_neg (by rw [e1]; decide)]
    rw [e1, e2]
    clear HL hcp hsh hvc hvm hlim hb0 hl2 hli e1 e2 HCS k2
    go_enter Try.func58, Try.ntmps58
    go_wp2
    go_returns
    exact ⟨_, [], rfl, EntsOw.nil _ _, rfl, Below.refl _ _⟩
  · have hw1 : IntKind.i64.wrap (i - 1) = i - 1 := by rw [IntKind.wrap_i64]; omega
    by_cases h2 : P.li + 1 < i
    · have e1 : enE P i = 8 := by unfold enE; rw [if_neg h1, if_pos h2]
      have e2 : enL P i most = [] := by unfold enL; rw [if_neg (by rw [e1]; decide)]
      rw [e1, e2]
      have h3 : P.li < i - 1 := by omega
      clear hcp hsh hvc hvm hlim hb0 hl2 hli e1 e2 h2
      generalize P.li = li at *
      obtain ⟨j, hj⟩ : ∃ j, i - 1 = j := ⟨_, rfl⟩
      replace hw1 : IntKind.i64.wrap (i - 1) = j := hw1.trans hj
      rw [hj] at h3
      clear hj
      go_enter Try.func58, Try.ntmps58
      go_wp2_with (go_at_call 21; refine HL.out.mono ?_; rintro r w1 ⟨rfl, hB1⟩)
      go_returns
      exact ⟨_, [], rfl, EntsOw.nil _ _, rfl, hB1⟩
    · have e1 : enE P i = 0 := by unfold enE; rw [if_neg h1, if_neg h2]
      obtain ⟨n0, hn0⟩ : ∃ n0 : Nat, i - P.bi - 1 = (n0 : Int) := ⟨(i - P.bi - 1).toNat, by omega⟩
      obtain ⟨cn, hcn⟩ : ∃ cn : Nat, cnt (i - 1) P.li most = cn := ⟨_, rfl⟩
      have e2 : enL P i most = (P.E.drop n0).take cn := by unfold enL; rw [if_pos e1, hcn, show (i - 1 - P.bi).toNat = n0 by omega]
      rw [e1, e2]
      obtain ⟨D, hD⟩ : ∃ D : Nat, P.E.length = n0 + D := ⟨P.E.length - n0, by omega⟩
      have HCN : Hid ((cn : Int) = min (max most 0) (D : Int)) := by
        show ((cn : Nat) : Int) = _
        rw [← hcn]
        unfold cnt
        omega
      have hle : n0 + cn ≤ P.E.length := by have := HCN.out; omega
      have hs1 : IntKind.i64.wrap (i - P.bi) = i - P.bi := by rw [IntKind.wrap_i64]; omega
      have hs2 : IntKind.i64.wrap (i - P.bi - 1) = (n0 : Int) := by rw [IntKind.wrap_i64]; omega
      have h3 : ¬ P.li < i - 1 := by omega
      have HD : Hid (P.E.length = n0 + D) := hD
      have HLE : Hid (n0 + cn ≤ P.E.length) := hle
      have hD2 : (P.E.length : Int) - (n0 : Int) = (D : Int) := by omega
      clear hlim hb0 hli e1 e2 h2 hcn hn0 hD hle
      generalize P.li = li at *
      obtain ⟨j, hj⟩ : ∃ j, i - 1 = j := ⟨_, rfl⟩
      replace hw1 : IntKind.i64.wrap (i - 1) = j := hw1.trans hj
      rw [hj] at h3
      clear hj
      obtain ⟨m, hm⟩ : ∃ m, P.E.length = m := ⟨_, rfl⟩
      rw [hm] at HD HLE hD2 k2 HCS hvc hl2
      have hcp' := hcp n0 cn (by rw [hm]; exact HLE.out)
      clear hcp hm
      obtain ⟨A, HA⟩ : ∃ A, Hid (A = max most 0) := ⟨_, rfl⟩
      have HAC : Hid (A = max most 0 ∧ (cn : Int) = min A (D : Int)) := ⟨HA.out, by rw [HA.out]; exact HCN.out⟩
      clear HCN HA
      have hwD : IntKind.i64.wrap ((m : Int) - (n0 : Int)) = (D : Int) := by rw [IntKind.wrap_i64]; omega
      have hwc : IntKind.i64.wrap ((n0 : Int) + (cn : Int)) = (n0 : Int) + (cn : Int) := by have := HLE.out; rw [IntKind.wrap_i64]; omega
      have i0 : (0 : Int) ≤ (n0 : Int) := by omega
      have hd0 : (0 : Int) ≤ (D : Int) := by omega
      unfold maxLen at hvm
      rcases hsh with ⟨rfl, rfl, hz⟩ | ⟨g, rfl⟩
      · have hm0 : m = 0 := by omega
        subst hm0
        obtain rfl : n0 = 0 := by have := HD.out; omega
        obtain rfl : D = 0 := by have := HD.out; omega
        obtain rfl : cn = 0 := by have := HLE.out; omega
        have HCP : Hid (∀ w1, Below w.heap.size w w1 → Calls Try.prog 16 #[.slice none 0 0] w1 fun e w' => ∃ v fs, e = .returned v ∧ EntsOw w1.heap.size w' v fs ∧ fs.map Ent.says = (P.E.drop 0).take 0 ∧ Below w1.heap.size w1 w') := fun w1 hB => hcp' w1 none 0 hB (.inl rfl)
        clear hcp' hwc hwD hD2
        go_enter Try.func58, Try.ntmps58
        go_wp2_with (go_at_call 21; refine HL.out.mono ?_; rintro r w1 ⟨rfl, hB1⟩; have HB1 : Hid (Below w.heap.size w w1) := hB1; obtain ⟨⟨y0, -, y2, -, -, -, -, -⟩, yf, yb⟩ := HCS.out w1 hB1; have hwd : Below w.heap.size w w1.drew := (by exact hB1.drew); clear hB1)
        refine wp_region_held_drew (S := fun w' => w'.cell? ⟨b, 2, none⟩ = some (.slice none 0 0)) (by kernel_rfl) y2 (fun hHeld => ?_)
        refine wpAnyH_take (i := 0) (oi := { dst := some 27, op := Op.move (Operand.tmp 0), type := 29, pos := "log.go:89", after := #[], guard := none }) (v := ?v0a) rfl (by kernel_rfl) (by kernel_rfl) (by kernel_rfl) (fun _ _ _ h => h) (Or.inl ⟨by rfl, ?h0a⟩) hHeld ?r0a
        case h0a => intro w hSw; (try dsimp only at hSw); go_simp; try with_reducible rfl
        try simp only [Act.put, List.setIfInBounds_toArray, List.set_cons_zero, List.set_cons_succ]
        refine wpAnyH_take (i := 1) (oi := { dst := some 28, op := Op.nilCheck (Operand.tmp 27), type := 0, pos := "log.go:89", after := #[{ on := 0, ground := Ground.data }], guard := none }) (v := ?v1a) rfl (by kernel_rfl) (by kernel_rfl) (by kernel_rfl) (fun _ _ _ h => h) (Or.inl ⟨by rfl, ?h1a⟩) hHeld ?r1a
        case h1a => intro w hSw; (try dsimp only at hSw); go_simp; try with_reducible rfl
        try simp only [Act.put, List.setIfInBounds_toArray, List.set_cons_zero, List.set_cons_succ]
        refine wpAnyH_take (i := 2) (oi := { dst := some 29, op := Op.fieldAddr 82 (Operand.tmp 28) 2, type := 0, pos := "log.go:89", after := #[{ on := 1, ground := Ground.data }], guard := none }) (v := ?v2a) rfl (by kernel_rfl) (by kernel_rfl) (by kernel_rfl) (fun _ _ _ h => h) (Or.inl ⟨by rfl, ?h2a⟩) hHeld ?r2a
        case h2a => intro w hSw; (try dsimp only at hSw); go_simp; try with_reducible rfl
        try simp only [Act.put, List.setIfInBounds_toArray, List.set_cons_zero, List.set_cons_succ]
        refine wpAnyH_take (i := 3) (oi := { dst := some 30, op := Op.load 34 (Operand.tmp 29), type := 34, pos := "log.go:89", after := #[{ on := 2, ground := Ground.data }], guard := none }) (v := ?v3a) rfl (by kernel_rfl) (by kernel_rfl) (by kernel_rfl) (fun _ _ _ h => h) (Or.inl ⟨by rfl, ?h3a⟩) hHeld ?r3a
        case h3a => intro w hSw; (try dsimp only at hSw); go_simp; try with_reducible rfl
        try simp only [Act.put, List.setIfInBounds_toArray, List.set_cons_zero, List.set_cons_succ]
        refine wpAnyH_take (i := 4) (oi := { dst := some 31, op := Op.move (Operand.tmp 8), type := 3, pos := "log.go:89", after := #[], guard := none }) (v := ?v4a) rfl (by kernel_rfl) (by kernel_rfl) (by kernel_rfl) (fun _ _ _ h => h) (Or.inl ⟨by rfl, ?h4a⟩) hHeld ?r4a
        case h4a => intro w hSw; (try dsimp only at hSw); go_simp; try with_reducible rfl
        try simp only [Act.put, List.setIfInBounds_toArray, List.set_cons_zero, List.set_cons_succ]
        refine wpAnyH_take (i := 5) (oi := { dst := some 32, op := Op.move (Operand.tmp 8), type := 3, pos := "log.go:89", after := #[], guard := none }) (v := ?v5a) rfl (by kernel_rfl) (by kernel_rfl) (by kernel_rfl) (fun _ _ _ h => h) (Or.inl ⟨by rfl, ?h5a⟩) hHeld ?r5a
        case h5a => intro w hSw; (try dsimp only at hSw); go_simp; try with_reducible rfl
        try simp only [Act.put, List.setIfInBounds_toArray, List.set_cons_zero, List.set_cons_succ]
        refine wpAnyH_take (i := 6) (oi := { dst := some 33, op := Op.move (Operand.tmp 2), type := 3, pos := "log.go:89", after := #[], guard := none }) (v := ?v6a) rfl (by kernel_rfl) (by kernel_rfl) (by kernel_rfl) (fun _ _ _ h => h) (Or.inl ⟨by rfl, ?h6a⟩) hHeld ?r6a
        case h6a => intro w hSw; (try dsimp only at hSw); go_simp; try with_reducible rfl
        try simp only [Act.put, List.setIfInBounds_toArray, List.set_cons_zero, List.set_cons_succ]
        refine wpAnyH_take (i := 7) (oi := { dst := some 34, op := Op.call { callee := Callee.builtin Builtin.max, args := #[Operand.tmp 33, Operand.const (Value.int IntKind.i64 0)], argTypes := #[3, 3] }, type := 3, pos := "log.go:89", after := #[{ on := 6, ground := Ground.data }], guard := none }) (v := .int .i64 A) rfl (by kernel_rfl) (by kernel_rfl) (by kernel_rfl) (fun _ _ _ h => h) (Or.inl ⟨by rfl, ?h7a⟩) hHeld ?r7a
        case h7a => intro w hSw; (try dsimp only at hSw); go_simp; all_goals (have hac := HAC.out; first | omega | (rw [IntKind.wrap_i64]; omega) | (split <;> first | omega | (simp; omega)))
        try simp only [Act.put, List.setIfInBounds_toArray, List.set_cons_zero, List.set_cons_succ]
        refine wpAnyH_take (i := 8) (oi := { dst := some 35, op := Op.move (Operand.tmp 0), type := 29, pos := "log.go:89", after := #[], guard := none }) (v := ?v8a) rfl (by kernel_rfl) (by kernel_rfl) (by kernel_rfl) (fun _ _ _ h => h) (Or.inl ⟨by rfl, ?h8a⟩) hHeld ?r8a
        case h8a => intro w hSw; (try dsimp only at hSw); go_simp; try with_reducible rfl
        try simp only [Act.put, List.setIfInBounds_toArray, List.set_cons_zero, List.set_cons_succ]
        refine wpAnyH_take (i := 9) (oi := { dst := some 36, op := Op.nilCheck (Operand.tmp 35), type := 0, pos := "log.go:89", after := #[{ on := 8, ground := Ground.data }], guard := none }) (v := ?v9a) rfl (by kernel_rfl) (by kernel_rfl) (by kernel_rfl) (fun _ _ _ h => h) (Or.inl ⟨by rfl, ?h9a⟩) hHeld ?r9a
        case h9a => intro w hSw; (try dsimp only at hSw); go_simp; try with_reducible rfl
        try simp only [Act.put, List.setIfInBounds_toArray, List.set_cons_zero, List.set_cons_succ]
        refine wpAnyH_take (i := 10) (oi := { dst := some 37, op := Op.fieldAddr 82 (Operand.tmp 36) 2, type := 0, pos := "log.go:89", after := #[{ on := 9, ground := Ground.data }], guard := none }) (v := ?v10a) rfl (by kernel_rfl) (by kernel_rfl) (by kernel_rfl) (fun _ _ _ h => h) (Or.inl ⟨by rfl, ?h10a⟩) hHeld ?r10a
        case h10a => intro w hSw; (try dsimp only at hSw); go_simp; try with_reducible rfl
        try simp only [Act.put, List.setIfInBounds_toArray, List.set_cons_zero, List.set_cons_succ]
        refine wpAnyH_take (i := 11) (oi := { dst := some 38, op := Op.load 34 (Operand.tmp 37), type := 34, pos := "log.go:89", after := #[{ on := 10, ground := Ground.data }], guard := none }) (v := ?v11a) rfl (by kernel_rfl) (by kernel_rfl) (by kernel_rfl) (fun _ _ _ h => h) (Or.inl ⟨by rfl, ?h11a⟩) hHeld ?r11a
        case h11a => intro w hSw; (try dsimp only at hSw); go_simp; try with_reducible rfl
        try simp only [Act.put, List.setIfInBounds_toArray, List.set_cons_zero, List.set_cons_succ]
        refine wpAnyH_take (i := 12) (oi := { dst := some 39, op := Op.call { callee := Callee.builtin Builtin.len, args := #[Operand.tmp 38], argTypes := #[34] }, type := 3, pos := "log.go:89", after := #[{ on := 11, ground := Ground.data }], guard := none }) (v := .int .i64 (0 : Int)) rfl (by kernel_rfl) (by kernel_rfl) (by kernel_rfl) (fun _ _ _ h => h) (Or.inl ⟨by rfl, ?h12a⟩) hHeld ?r12a
        case h12a => intro w hSw; (try dsimp only at hSw); go_simp; all_goals (have hac := HAC.out; first | omega | (rw [IntKind.wrap_i64]; omega) | (split <;> first | omega | (simp; omega)))
        try simp only [Act.put, List.setIfInBounds_toArray, List.set_cons_zero, List.set_cons_succ]
        refine wpAnyH_take (i := 13) (oi := { dst := some 40, op := Op.move (Operand.tmp 8), type := 3, pos := "log.go:89", after := #[], guard := none }) (v := ?v13a) rfl (by kernel_rfl) (by kernel_rfl) (by kernel_rfl) (fun _ _ _ h => h) (Or.inl ⟨by rfl, ?h13a⟩) hHeld ?r13a
        case h13a => intro w hSw; (try dsimp only at hSw); go_simp; try with_reducible rfl
        try simp only [Act.put, List.setIfInBounds_toArray, List.set_cons_zero, List.set_cons_succ]
        refine wpAnyH_take (i := 14) (oi := { dst := some 41, op := Op.binOp BinOp.sub 3 (Operand.tmp 39) (Operand.tmp 40) 3, type := 3, pos := "log.go:89", after := #[{ on := 12, ground := Ground.data }, { on := 13, ground := Ground.data }], guard := none }) (v := .int .i64 0) rfl (by kernel_rfl) (by kernel_rfl) (by kernel_rfl) (fun _ _ _ h => h) (Or.inl ⟨by rfl, ?h14a⟩) hHeld ?r14a
        case h14a => intro w hSw; (try dsimp only at hSw); go_simp; all_goals (have hac := HAC.out; first | omega | (rw [IntKind.wrap_i64]; omega) | (split <;> first | omega | (simp; omega)))
        try simp only [Act.put, List.setIfInBounds_toArray, List.set_cons_zero, List.set_cons_succ]
        refine wpAnyH_take (i := 15) (oi := { dst := some 42, op := Op.call { callee := Callee.builtin Builtin.min, args := #[Operand.tmp 34, Operand.tmp 41], argTypes := #[3, 3] }, type := 3, pos := "log.go:89", after := #[{ on := 7, ground := Ground.data }, { on := 14, ground := Ground.data }], guard := none }) (v := .int .i64 0) rfl (by kernel_rfl) (by kernel_rfl) (by kernel_rfl) (fun _ _ _ h => h) (Or.inl ⟨by rfl, ?h15a⟩) hHeld ?r15a
        case h15a => intro w hSw; (try dsimp only at hSw); go_simp; all_goals (have hac := HAC.out; first | omega | (rw [IntKind.wrap_i64]; omega) | (split <;> first | omega | (simp; omega)))
        try simp only [Act.put, List.setIfInBounds_toArray, List.set_cons_zero, List.set_cons_succ]
        refine wpAnyH_take (i := 16) (oi := { dst := some 43, op := Op.binOp BinOp.add 3 (Operand.tmp 32) (Operand.tmp 42) 3, type := 3, pos := "log.go:89", after := #[{ on := 5, ground := Ground.data }, { on := 15, ground := Ground.data }], guard := none }) (v := .int .i64 0) rfl (by kernel_rfl) (by kernel_rfl) (by kernel_rfl) (fun _ _ _ h => h) (Or.inl ⟨by rfl, ?h16a⟩) hHeld ?r16a
        case h16a => intro w hSw; (try dsimp only at hSw); go_simp; all_goals (have hac := HAC.out; first | omega | (rw [IntKind.wrap_i64]; omega) | (split <;> first | omega | (simp; omega)))
        try simp only [Act.put, List.setIfInBounds_toArray, List.set_cons_zero, List.set_cons_succ]
        refine wpAnyH_take (i := 17) (oi := { dst := some 44, op := Op.slice 34 (Operand.tmp 30) (some (Operand.tmp 31)) (some (Operand.tmp 43)) none, type := 34, pos := "log.go:89", after := #[{ on := 3, ground := Ground.data }, { on := 4, ground := Ground.data }, { on := 16, ground := Ground.data }], guard := none }) (v := .slice none 0 0) rfl (by kernel_rfl) (by kernel_rfl) (by kernel_rfl) (fun _ _ _ h => h) (Or.inl ⟨by rfl, ?h17a⟩) hHeld ?r17a
        case h17a => intro w hSw; (try dsimp only at hSw); go_simp; all_goals (have hac := HAC.out; first | omega | (rw [IntKind.wrap_i64]; omega) | (split <;> first | omega | (simp; omega)))
        try simp only [Act.put, List.setIfInBounds_toArray, List.set_cons_zero, List.set_cons_succ]
        refine wpAnyH_ready (rs := [18]) (by kernel_rfl) (by simp) ?_
        refine AllReadyH.cons (o := { dst := some 45, op := Op.call { callee := Callee.value (Operand.func 16), args := #[Operand.tmp 44], argTypes := #[34] }, type := 34, pos := "log.go:89", after := #[{ on := 17, ground := Ground.data }], guard := none }) rfl (fun KK hK => ?_) ?_
        · go_simp
          go_wp2_with (go_at_call 16; refine (HCP.out _ hwd).mono ?_; rintro r w2 ⟨v, fs, rfl, q1, q2, q3⟩; have HB2 : Hid (Below w.heap.size w w2) := hwd.trans (q3.mono hwd.size); obtain ⟨⟨z0, -, z2, -, -, -, -, -⟩, zf, zb⟩ := HCS.out w2 HB2.out; have Q1 : Hid (EntsOw w.heap.size w2 v fs) := q1.base hwd.size; have Q2 : Hid (fs.map Ent.says = _) := q2; clear q1 q2 q3)
          refine hK.out _ _ z2 (fun hHeld => ?_)
          clear hK
          try simp only [Act.put, List.setIfInBounds_toArray, List.set_cons_zero, List.set_cons_succ]
          refine wpAnyH_take (i := 19) (oi := { dst := some 6, op := Op.assign (Operand.tmp 45), type := 34, pos := "log.go:89", after := #[{ on := 18, ground := Ground.data }, { on := 18, ground := Ground.chain }, { on := 0, ground := Ground.phase }, { on := 1, ground := Ground.phase }, { on := 2, ground := Ground.phase }, { on := 3, ground := Ground.phase }, { on := 4, ground := Ground.phase }, { on := 5, ground := Ground.phase }, { on := 6, ground := Ground.phase }, { on := 7, ground := Ground.phase }, { on := 8, ground := Ground.phase }, { on := 9, ground := Ground.phase }, { on := 10, ground := Ground.phase }, { on := 11, ground := Ground.phase }, { on := 12, ground := Ground.phase }, { on := 13, ground := Ground.phase }, { on := 14, ground := Ground.phase }, { on := 15, ground := Ground.phase }, { on := 16, ground := Ground.phase }, { on := 17, ground := Ground.phase }, { on := 18, ground := Ground.phase }], guard := none }) (v := ?v19a) rfl (by kernel_rfl) (by kernel_rfl) (by kernel_rfl) (fun _ _ _ h => h) (Or.inl ⟨by rfl, ?h19a⟩) hHeld ?r19a
          case h19a => intro w hSw; (try dsimp only at hSw); go_simp; try with_reducible rfl
          try simp only [Act.put, List.setIfInBounds_toArray, List.set_cons_zero, List.set_cons_succ]
          refine wpAnyH_take (i := 20) (oi := { dst := some 7, op := Op.assign (Operand.const (Value.int IntKind.i64 0)), type := 3, pos := "log.go:89", after := #[{ on := 19, ground := Ground.chain }, { on := 0, ground := Ground.phase }, { on := 1, ground := Ground.phase }, { on := 2, ground := Ground.phase }, { on := 3, ground := Ground.phase }, { on := 4, ground := Ground.phase }, { on := 5, ground := Ground.phase }, { on := 6, ground := Ground.phase }, { on := 7, ground := Ground.phase }, { on := 8, ground := Ground.phase }, { on := 9, ground := Ground.phase }, { on := 10, ground := Ground.phase }, { on := 11, ground := Ground.phase }, { on := 12, ground := Ground.phase }, { on := 13, ground := Ground.phase }, { on := 14, ground := Ground.phase }, { on := 15, ground := Ground.phase }, { on := 16, ground := Ground.phase }, { on := 17, ground := Ground.phase }, { on := 18, ground := Ground.phase }, { on := 19, ground := Ground.phase }], guard := none }) (v := ?v20a) rfl (by kernel_rfl) (by kernel_rfl) (by kernel_rfl) (fun _ _ _ h => h) (Or.inl ⟨by rfl, ?h20a⟩) hHeld ?r20a
          case h20a => intro w hSw; (try dsimp only at hSw); go_simp; try with_reducible rfl
          try simp only [Act.put, List.setIfInBounds_toArray, List.set_cons_zero, List.set_cons_succ]
          refine wpAnyH_done (by kernel_rfl) ?_ _
          go_wp2
          go_returns
          exact ⟨v, fs, rfl, Q1.out, Q2.out, HB2.out⟩
        exact AllReadyH.nil
      · have i2 : (n0 : Int) + (cn : Int) ≤ (vc : Int) := by have := HLE.out; omega
        have i1 : (n0 : Int) ≤ (n0 : Int) + (cn : Int) := by omega
        by_cases hvn : vc = n0
        · subst hvn
          have hcm : m = vc := by have := HD.out; omega
          subst hcm
          obtain rfl : D = 0 := by have := HD.out; omega
          obtain rfl : cn = 0 := by have := HLE.out; omega
          have HCP : Hid (∀ w1, Below w.heap.size w w1 → Calls Try.prog 16 #[.slice (some ⟨g, 0, none⟩) 0 0] w1 fun e w' => ∃ v fs, e = .returned v ∧ EntsOw w1.heap.size w' v fs ∧ fs.map Ent.says = (P.E.drop m).take 0 ∧ Below w1.heap.size w1 w') := fun w1 hB => hcp' w1 _ 0 hB (.inl rfl)
          clear hcp'
          go_enter Try.func58, Try.ntmps58
          go_wp2_with (go_at_call 21; refine HL.out.mono ?_; rintro r w1 ⟨rfl, hB1⟩; have HB1 : Hid (Below w.heap.size w w1) := hB1; obtain ⟨⟨y0, -, y2, -, -, -, -, -⟩, yf, yb⟩ := HCS.out w1 hB1; have hwd : Below w.heap.size w w1.drew := (by exact hB1.drew); clear hB1)
          refine wp_region_held_drew (S := fun w' => w'.cell? ⟨b, 2, none⟩ = some (.slice (some ⟨g, 0, none⟩) m m)) (by kernel_rfl) y2 (fun hHeld => ?_)
          refine wpAnyH_take (i := 0) (oi := { dst := some 27, op := Op.move (Operand.tmp 0), type := 29, pos := "log.go:89", after := #[], guard := none }) (v := ?v0b) rfl (by kernel_rfl) (by kernel_rfl) (by kernel_rfl) (fun _ _ _ h => h) (Or.inl ⟨by rfl, ?h0b⟩) hHeld ?r0b
          case h0b => intro w hSw; (try dsimp only at hSw); go_simp; try with_reducible rfl
          try simp only [Act.put, List.setIfInBounds_toArray, List.set_cons_zero, List.set_cons_succ]
          refine wpAnyH_take (i := 1) (oi := { dst := some 28, op := Op.nilCheck (Operand.tmp 27), type := 0, pos := "log.go:89", after := #[{ on := 0, ground := Ground.data }], guard := none }) (v := ?v1b) rfl (by kernel_rfl) (by kernel_rfl) (by kernel_rfl) (fun _ _ _ h => h) (Or.inl ⟨by rfl, ?h1b⟩) hHeld ?r1b
          case h1b => intro w hSw; (try dsimp only at hSw); go_simp; try with_reducible rfl
          try simp only [Act.put, List.setIfInBounds_toArray, List.set_cons_zero, List.set_cons_succ]
          refine wpAnyH_take (i := 2) (oi := { dst := some 29, op := Op.fieldAddr 82 (Operand.tmp 28) 2, type := 0, pos := "log.go:89", after := #[{ on := 1, ground := Ground.data }], guard := none }) (v := ?v2b) rfl (by kernel_rfl) (by kernel_rfl) (by kernel_rfl) (fun _ _ _ h => h) (Or.inl ⟨by rfl, ?h2b⟩) hHeld ?r2b
          case h2b => intro w hSw; (try dsimp only at hSw); go_simp; try with_reducible rfl
          try simp only [Act.put, List.setIfInBounds_toArray, List.set_cons_zero, List.set_cons_succ]
          refine wpAnyH_take (i := 3) (oi := { dst := some 30, op := Op.load 34 (Operand.tmp 29), type := 34, pos := "log.go:89", after := #[{ on := 2, ground := Ground.data }], guard := none }) (v := ?v3b) rfl (by kernel_rfl) (by kernel_rfl) (by kernel_rfl) (fun _ _ _ h => h) (Or.inl ⟨by rfl, ?h3b⟩) hHeld ?r3b
          case h3b => intro w hSw; (try dsimp only at hSw); go_simp; try with_reducible rfl
          try simp only [Act.put, List.setIfInBounds_toArray, List.set_cons_zero, List.set_cons_succ]
          refine wpAnyH_take (i := 4) (oi := { dst := some 31, op := Op.move (Operand.tmp 8), type := 3, pos := "log.go:89", after := #[], guard := none }) (v := ?v4b) rfl (by kernel_rfl) (by kernel_rfl) (by kernel_rfl) (fun _ _ _ h => h) (Or.inl ⟨by rfl, ?h4b⟩) hHeld ?r4b
          case h4b => intro w hSw; (try dsimp only at hSw); go_simp; try with_reducible rfl
          try simp only [Act.put, List.setIfInBounds_toArray, List.set_cons_zero, List.set_cons_succ]
          refine wpAnyH_take (i := 5) (oi := { dst := some 32, op := Op.move (Operand.tmp 8), type := 3, pos := "log.go:89", after := #[], guard := none }) (v := ?v5b) rfl (by kernel_rfl) (by kernel_rfl) (by kernel_rfl) (fun _ _ _ h => h) (Or.inl ⟨by rfl, ?h5b⟩) hHeld ?r5b
          case h5b => intro w hSw; (try dsimp only at hSw); go_simp; try with_reducible rfl
          try simp only [Act.put, List.setIfInBounds_toArray, List.set_cons_zero, List.set_cons_succ]
          refine wpAnyH_take (i := 6) (oi := { dst := some 33, op := Op.move (Operand.tmp 2), type := 3, pos := "log.go:89", after := #[], guard := none }) (v := ?v6b) rfl (by kernel_rfl) (by kernel_rfl) (by kernel_rfl) (fun _ _ _ h => h) (Or.inl ⟨by rfl, ?h6b⟩) hHeld ?r6b
          case h6b => intro w hSw; (try dsimp only at hSw); go_simp; try with_reducible rfl
          try simp only [Act.put, List.setIfInBounds_toArray, List.set_cons_zero, List.set_cons_succ]
          refine wpAnyH_take (i := 7) (oi := { dst := some 34, op := Op.call { callee := Callee.builtin Builtin.max, args := #[Operand.tmp 33, Operand.const (Value.int IntKind.i64 0)], argTypes := #[3, 3] }, type := 3, pos := "log.go:89", after := #[{ on := 6, ground := Ground.data }], guard := none }) (v := .int .i64 A) rfl (by kernel_rfl) (by kernel_rfl) (by kernel_rfl) (fun _ _ _ h => h) (Or.inl ⟨by rfl, ?h7b⟩) hHeld ?r7b
          case h7b => intro w hSw; (try dsimp only at hSw); go_simp; all_goals (have hac := HAC.out; first | omega | (rw [IntKind.wrap_i64]; omega) | (split <;> first | omega | (simp; omega)))
          try simp only [Act.put, List.setIfInBounds_toArray, List.set_cons_zero, List.set_cons_succ]
          refine wpAnyH_take (i := 8) (oi := { dst := some 35, op := Op.move (Operand.tmp 0), type := 29, pos := "log.go:89", after := #[], guard := none }) (v := ?v8b) rfl (by kernel_rfl) (by kernel_rfl) (by kernel_rfl) (fun _ _ _ h => h) (Or.inl ⟨by rfl, ?h8b⟩) hHeld ?r8b
          case h8b => intro w hSw; (try dsimp only at hSw); go_simp; try with_reducible rfl
          try simp only [Act.put, List.setIfInBounds_toArray, List.set_cons_zero, List.set_cons_succ]
          refine wpAnyH_take (i := 9) (oi := { dst := some 36, op := Op.nilCheck (Operand.tmp 35), type := 0, pos := "log.go:89", after := #[{ on := 8, ground := Ground.data }], guard := none }) (v := ?v9b) rfl (by kernel_rfl) (by kernel_rfl) (by kernel_rfl) (fun _ _ _ h => h) (Or.inl ⟨by rfl, ?h9b⟩) hHeld ?r9b
          case h9b => intro w hSw; (try dsimp only at hSw); go_simp; try with_reducible rfl
          try simp only [Act.put, List.setIfInBounds_toArray, List.set_cons_zero, List.set_cons_succ]
          refine wpAnyH_take (i := 10) (oi := { dst := some 37, op := Op.fieldAddr 82 (Operand.tmp 36) 2, type := 0, pos := "log.go:89", after := #[{ on := 9, ground := Ground.data }], guard := none }) (v := ?v10b) rfl (by kernel_rfl) (by kernel_rfl) (by kernel_rfl) (fun _ _ _ h => h) (Or.inl ⟨by rfl, ?h10b⟩) hHeld ?r10b
          case h10b => intro w hSw; (try dsimp only at hSw); go_simp; try with_reducible rfl
          try simp only [Act.put, List.setIfInBounds_toArray, List.set_cons_zero, List.set_cons_succ]
          refine wpAnyH_take (i := 11) (oi := { dst := some 38, op := Op.load 34 (Operand.tmp 37), type := 34, pos := "log.go:89", after := #[{ on := 10, ground := Ground.data }], guard := none }) (v := ?v11b) rfl (by kernel_rfl) (by kernel_rfl) (by kernel_rfl) (fun _ _ _ h => h) (Or.inl ⟨by rfl, ?h11b⟩) hHeld ?r11b
          case h11b => intro w hSw; (try dsimp only at hSw); go_simp; try with_reducible rfl
          try simp only [Act.put, List.setIfInBounds_toArray, List.set_cons_zero, List.set_cons_succ]
          refine wpAnyH_take (i := 12) (oi := { dst := some 39, op := Op.call { callee := Callee.builtin Builtin.len, args := #[Operand.tmp 38], argTypes := #[34] }, type := 3, pos := "log.go:89", after := #[{ on := 11, ground := Ground.data }], guard := none }) (v := .int .i64 ((m : Nat) : Int)) rfl (by kernel_rfl) (by kernel_rfl) (by kernel_rfl) (fun _ _ _ h => h) (Or.inl ⟨by rfl, ?h12b⟩) hHeld ?r12b
          case h12b => intro w hSw; (try dsimp only at hSw); go_simp; all_goals (have hac := HAC.out; first | omega | (rw [IntKind.wrap_i64]; omega) | (split <;> first | omega | (simp; omega)))
          try simp only [Act.put, List.setIfInBounds_toArray, List.set_cons_zero, List.set_cons_succ]
          refine wpAnyH_take (i := 13) (oi := { dst := some 40, op := Op.move (Operand.tmp 8), type := 3, pos := "log.go:89", after := #[], guard := none }) (v := ?v13b) rfl (by kernel_rfl) (by kernel_rfl) (by kernel_rfl) (fun _ _ _ h => h) (Or.inl ⟨by rfl, ?h13b⟩) hHeld ?r13b
          case h13b => intro w hSw; (try dsimp only at hSw); go_simp; try with_reducible rfl
          try simp only [Act.put, List.setIfInBounds_toArray, List.set_cons_zero, List.set_cons_succ]
          refine wpAnyH_take (i := 14) (oi := { dst := some 41, op := Op.binOp BinOp.sub 3 (Operand.tmp 39) (Operand.tmp 40) 3, type := 3, pos := "log.go:89", after := #[{ on := 12, ground := Ground.data }, { on := 13, ground := Ground.data }], guard := none }) (v := .int .i64 0) rfl (by kernel_rfl) (by kernel_rfl) (by kernel_rfl) (fun _ _ _ h => h) (Or.inl ⟨by rfl, ?h14b⟩) hHeld ?r14b
          case h14b => intro w hSw; (try dsimp only at hSw); go_simp; all_goals (have hac := HAC.out; first | omega | (rw [IntKind.wrap_i64]; omega) | (split <;> first | omega | (simp; omega)))
          try simp only [Act.put, List.setIfInBounds_toArray, List.set_cons_zero, List.set_cons_succ]
          refine wpAnyH_take (i := 15) (oi := { dst := some 42, op := Op.call { callee := Callee.builtin Builtin.min, args := #[Operand.tmp 34, Operand.tmp 41], argTypes := #[3, 3] }, type := 3, pos := "log.go:89", after := #[{ on := 7, ground := Ground.data }, { on := 14, ground := Ground.data }], guard := none }) (v := .int .i64 0) rfl (by kernel_rfl) (by kernel_rfl) (by kernel_rfl) (fun _ _ _ h => h) (Or.inl ⟨by rfl, ?h15b⟩) hHeld ?r15b
          case h15b => intro w hSw; (try dsimp only at hSw); go_simp; all_goals (have hac := HAC.out; first | omega | (rw [IntKind.wrap_i64]; omega) | (split <;> first | omega | (simp; omega)))
          try simp only [Act.put, List.setIfInBounds_toArray, List.set_cons_zero, List.set_cons_succ]
          refine wpAnyH_take (i := 16) (oi := { dst := some 43, op := Op.binOp BinOp.add 3 (Operand.tmp 32) (Operand.tmp 42) 3, type := 3, pos := "log.go:89", after := #[{ on := 5, ground := Ground.data }, { on := 15, ground := Ground.data }], guard := none }) (v := .int .i64 (m : Int)) rfl (by kernel_rfl) (by kernel_rfl) (by kernel_rfl) (fun _ _ _ h => h) (Or.inl ⟨by rfl, ?h16b⟩) hHeld ?r16b
          case h16b => intro w hSw; (try dsimp only at hSw); go_simp; all_goals (have hac := HAC.out; first | omega | (rw [IntKind.wrap_i64]; omega) | (split <;> first | omega | (simp; omega)))
          try simp only [Act.put, List.setIfInBounds_toArray, List.set_cons_zero, List.set_cons_succ]
          refine wpAnyH_take (i := 17) (oi := { dst := some 44, op := Op.slice 34 (Operand.tmp 30) (some (Operand.tmp 31)) (some (Operand.tmp 43)) none, type := 34, pos := "log.go:89", after := #[{ on := 3, ground := Ground.data }, { on := 4, ground := Ground.data }, { on := 16, ground := Ground.data }], guard := none }) (v := .slice (some ⟨g, 0, none⟩) 0 0) rfl (by kernel_rfl) (by kernel_rfl) (by kernel_rfl) (fun _ _ _ h => h) (Or.inl ⟨by rfl, ?h17b⟩) hHeld ?r17b
          case h17b => intro w hSw; (try dsimp only at hSw); go_simp; all_goals (have hac := HAC.out; first | omega | (rw [IntKind.wrap_i64]; omega) | (split <;> first | omega | (simp; omega)))
          try simp only [Act.put, List.setIfInBounds_toArray, List.set_cons_zero, List.set_cons_succ]
          refine wpAnyH_ready (rs := [18]) (by kernel_rfl) (by simp) ?_
          refine AllReadyH.cons (o := { dst := some 45, op := Op.call { callee := Callee.value (Operand.func 16), args := #[Operand.tmp 44], argTypes := #[34] }, type := 34, pos := "log.go:89", after := #[{ on := 17, ground := Ground.data }], guard := none }) rfl (fun KK hK => ?_) ?_
          · go_simp
            go_wp2_with (go_at_call 16; refine (HCP.out _ hwd).mono ?_; rintro r w2 ⟨v, fs, rfl, q1, q2, q3⟩; have HB2 : Hid (Below w.heap.size w w2) := hwd.trans (q3.mono hwd.size); obtain ⟨⟨z0, -, z2, -, -, -, -, -⟩, zf, zb⟩ := HCS.out w2 HB2.out; have Q1 : Hid (EntsOw w.heap.size w2 v fs) := q1.base hwd.size; have Q2 : Hid (fs.map Ent.says = _) := q2; clear q1 q2 q3)
            refine hK.out _ _ z2 (fun hHeld => ?_)
            clear hK
            try simp only [Act.put, List.setIfInBounds_toArray, List.set_cons_zero, List.set_cons_succ]
            refine wpAnyH_take (i := 19) (oi := { dst := some 6, op := Op.assign (Operand.tmp 45), type := 34, pos := "log.go:89", after := #[{ on := 18, ground := Ground.data }, { on := 18, ground := Ground.chain }, { on := 0, ground := Ground.phase }, { on := 1, ground := Ground.phase }, { on := 2, ground := Ground.phase }, { on := 3, ground := Ground.phase }, { on := 4, ground := Ground.phase }, { on := 5, ground := Ground.phase }, { on := 6, ground := Ground.phase }, { on := 7, ground := Ground.phase }, { on := 8, ground := Ground.phase }, { on := 9, ground := Ground.phase }, { on := 10, ground := Ground.phase }, { on := 11, ground := Ground.phase }, { on := 12, ground := Ground.phase }, { on := 13, ground := Ground.phase }, { on := 14, ground := Ground.phase }, { on := 15, ground := Ground.phase }, { on := 16, ground := Ground.phase }, { on := 17, ground := Ground.phase }, { on := 18, ground := Ground.phase }], guard := none }) (v := ?v19b) rfl (by kernel_rfl) (by kernel_rfl) (by kernel_rfl) (fun _ _ _ h => h) (Or.inl ⟨by rfl, ?h19b⟩) hHeld ?r19b
            case h19b => intro w hSw; (try dsimp only at hSw); go_simp; try with_reducible rfl
            try simp only [Act.put, List.setIfInBounds_toArray, List.set_cons_zero, List.set_cons_succ]
            refine wpAnyH_take (i := 20) (oi := { dst := some 7, op := Op.assign (Operand.const (Value.int IntKind.i64 0)), type := 3, pos := "log.go:89", after := #[{ on := 19, ground := Ground.chain }, { on := 0, ground := Ground.phase }, { on := 1, ground := Ground.phase }, { on := 2, ground := Ground.phase }, { on := 3, ground := Ground.phase }, { on := 4, ground := Ground.phase }, { on := 5, ground := Ground.phase }, { on := 6, ground := Ground.phase }, { on := 7, ground := Ground.phase }, { on := 8, ground := Ground.phase }, { on := 9, ground := Ground.phase }, { on := 10, ground := Ground.phase }, { on := 11, ground := Ground.phase }, { on := 12, ground := Ground.phase }, { on := 13, ground := Ground.phase }, { on := 14, ground := Ground.phase }, { on := 15, ground := Ground.phase }, { on := 16, ground := Ground.phase }, { on := 17, ground := Ground.phase }, { on := 18, ground := Ground.phase }, { on := 19, ground := Ground.phase }], guard := none }) (v := ?v20b) rfl (by kernel_rfl) (by kernel_rfl) (by kernel_rfl) (fun _ _ _ h => h) (Or.inl ⟨by rfl, ?h20b⟩) hHeld ?r20b
            case h20b => intro w hSw; (try dsimp only at hSw); go_simp; try with_reducible rfl
            try simp only [Act.put, List.setIfInBounds_toArray, List.set_cons_zero, List.set_cons_succ]
            refine wpAnyH_done (by kernel_rfl) ?_ _
            go_wp2
            go_returns
            exact ⟨v, fs, rfl, Q1.out, Q2.out, HB2.out⟩
          exact AllReadyH.nil
        · have HCP : Hid (∀ w1, Below w.heap.size w w1 → Calls Try.prog 16 #[.slice (some ⟨g, n0 * 4, none⟩) cn (vc - n0)] w1 fun e w' => ∃ v fs, e = .returned v ∧ EntsOw w1.heap.size w' v fs ∧ fs.map Ent.says = (P.E.drop n0).take cn ∧ Below w1.heap.size w1 w') := fun w1 hB => hcp' w1 _ _ hB (.inr (.inr ⟨g, rfl, rfl⟩))
          have hmn : n0 ≤ m := by have := HD.out; omega
          clear hcp'
          go_enter Try.func58, Try.ntmps58
          go_wp2_with (go_at_call 21; refine HL.out.mono ?_; rintro r w1 ⟨rfl, hB1⟩; have HB1 : Hid (Below w.heap.size w w1) := hB1; obtain ⟨⟨y0, -, y2, -, -, -, -, -⟩, yf, yb⟩ := HCS.out w1 hB1; have hwd : Below w.heap.size w w1.drew := (by exact hB1.drew); clear hB1)
          refine wp_region_held_drew (S := fun w' => w'.cell? ⟨b, 2, none⟩ = some (.slice (some ⟨g, 0, none⟩) m vc)) (by kernel_rfl) y2 (fun hHeld => ?_)
          refine wpAnyH_take (i := 0) (oi := { dst := some 27, op := Op.move (Operand.tmp 0), type := 29, pos := "log.go:89", after := #[], guard := none }) (v := ?v0c) rfl (by kernel_rfl) (by kernel_rfl) (by kernel_rfl) (fun _ _ _ h => h) (Or.inl ⟨by rfl, ?h0c⟩) hHeld ?r0c
          case h0c => intro w hSw; (try dsimp only at hSw); go_simp; try with_reducible rfl
          try simp only [Act.put, List.setIfInBounds_toArray, List.set_cons_zero, List.set_cons_succ]
          refine wpAnyH_take (i := 1) (oi := { dst := some 28, op := Op.nilCheck (Operand.tmp 27), type := 0, pos := "log.go:89", after := #[{ on := 0, ground := Ground.data }], guard := none }) (v := ?v1c) rfl (by kernel_rfl) (by kernel_rfl) (by kernel_rfl) (fun _ _ _ h => h) (Or.inl ⟨by rfl, ?h1c⟩) hHeld ?r1c
          case h1c => intro w hSw; (try dsimp only at hSw); go_simp; try with_reducible rfl
          try simp only [Act.put, List.setIfInBounds_toArray, List.set_cons_zero, List.set_cons_succ]
          refine wpAnyH_take (i := 2) (oi := { dst := some 29, op := Op.fieldAddr 82 (Operand.tmp 28) 2, type := 0, pos := "log.go:89", after := #[{ on := 1, ground := Ground.data }], guard := none }) (v := ?v2c) rfl (by kernel_rfl) (by kernel_rfl) (by kernel_rfl) (fun _ _ _ h => h) (Or.inl ⟨by rfl, ?h2c⟩) hHeld ?r2c
          case h2c => intro w hSw; (try dsimp only at hSw); go_simp; try with_reducible rfl
          try simp only [Act.put, List.setIfInBounds_toArray, List.set_cons_zero, List.set_cons_succ]
          refine wpAnyH_take (i := 3) (oi := { dst := some 30, op := Op.load 34 (Operand.tmp 29), type := 34, pos := "log.go:89", after := #[{ on := 2, ground := Ground.data }], guard := none }) (v := ?v3c) rfl (by kernel_rfl) (by kernel_rfl) (by kernel_rfl) (fun _ _ _ h => h) (Or.inl ⟨by rfl, ?h3c⟩) hHeld ?r3c
          case h3c => intro w hSw; (try dsimp only at hSw); go_simp; try with_reducible rfl
          try simp only [Act.put, List.setIfInBounds_toArray, List.set_cons_zero, List.set_cons_succ]
          refine wpAnyH_take (i := 4) (oi := { dst := some 31, op := Op.move (Operand.tmp 8), type := 3, pos := "log.go:89", after := #[], guard := none }) (v := ?v4c) rfl (by kernel_rfl) (by kernel_rfl) (by kernel_rfl) (fun _ _ _ h => h) (Or.inl ⟨by rfl, ?h4c⟩) hHeld ?r4c
          case h4c => intro w hSw; (try dsimp only at hSw); go_simp; try with_reducible rfl
          try simp only [Act.put, List.setIfInBounds_toArray, List.set_cons_zero, List.set_cons_succ]
          refine wpAnyH_take (i := 5) (oi := { dst := some 32, op := Op.move (Operand.tmp 8), type := 3, pos := "log.go:89", after := #[], guard := none }) (v := ?v5c) rfl (by kernel_rfl) (by kernel_rfl) (by kernel_rfl) (fun _ _ _ h => h) (Or.inl ⟨by rfl, ?h5c⟩) hHeld ?r5c
          case h5c => intro w hSw; (try dsimp only at hSw); go_simp; try with_reducible rfl
          try simp only [Act.put, List.setIfInBounds_toArray, List.set_cons_zero, List.set_cons_succ]
          refine wpAnyH_take (i := 6) (oi := { dst := some 33, op := Op.move (Operand.tmp 2), type := 3, pos := "log.go:89", after := #[], guard := none }) (v := ?v6c) rfl (by kernel_rfl) (by kernel_rfl) (by kernel_rfl) (fun _ _ _ h => h) (Or.inl ⟨by rfl, ?h6c⟩) hHeld ?r6c
          case h6c => intro w hSw; (try dsimp only at hSw); go_simp; try with_reducible rfl
          try simp only [Act.put, List.setIfInBounds_toArray, List.set_cons_zero, List.set_cons_succ]
          refine wpAnyH_take (i := 7) (oi := { dst := some 34, op := Op.call { callee := Callee.builtin Builtin.max, args := #[Operand.tmp 33, Operand.const (Value.int IntKind.i64 0)], argTypes := #[3, 3] }, type := 3, pos := "log.go:89", after := #[{ on := 6, ground := Ground.data }], guard := none }) (v := .int .i64 A) rfl (by kernel_rfl) (by kernel_rfl) (by kernel_rfl) (fun _ _ _ h => h) (Or.inl ⟨by rfl, ?h7c⟩) hHeld ?r7c
          case h7c => intro w hSw; (try dsimp only at hSw); go_simp; all_goals (have hac := HAC.out; first | omega | (rw [IntKind.wrap_i64]; omega) | (split <;> first | omega | (simp; omega)))
          try simp only [Act.put, List.setIfInBounds_toArray, List.set_cons_zero, List.set_cons_succ]
          refine wpAnyH_take (i := 8) (oi := { dst := some 35, op := Op.move (Operand.tmp 0), type := 29, pos := "log.go:89", after := #[], guard := none }) (v := ?v8c) rfl (by kernel_rfl) (by kernel_rfl) (by kernel_rfl) (fun _ _ _ h => h) (Or.inl ⟨by rfl, ?h8c⟩) hHeld ?r8c
          case h8c => intro w hSw; (try dsimp only at hSw); go_simp; try with_reducible rfl
          try simp only [Act.put, List.setIfInBounds_toArray, List.set_cons_zero, List.set_cons_succ]
          refine wpAnyH_take (i := 9) (oi := { dst := some 36, op := Op.nilCheck (Operand.tmp 35), type := 0, pos := "log.go:89", after := #[{ on := 8, ground := Ground.data }], guard := none }) (v := ?v9c) rfl (by kernel_rfl) (by kernel_rfl) (by kernel_rfl) (fun _ _ _ h => h) (Or.inl ⟨by rfl, ?h9c⟩) hHeld ?r9c
          case h9c => intro w hSw; (try dsimp only at hSw); go_simp; try with_reducible rfl
          try simp only [Act.put, List.setIfInBounds_toArray, List.set_cons_zero, List.set_cons_succ]
          refine wpAnyH_take (i := 10) (oi := { dst := some 37, op := Op.fieldAddr 82 (Operand.tmp 36) 2, type := 0, pos := "log.go:89", after := #[{ on := 9, ground := Ground.data }], guard := none }) (v := ?v10c) rfl (by kernel_rfl) (by kernel_rfl) (by kernel_rfl) (fun _ _ _ h => h) (Or.inl ⟨by rfl, ?h10c⟩) hHeld ?r10c
          case h10c => intro w hSw; (try dsimp only at hSw); go_simp; try with_reducible rfl
          try simp only [Act.put, List.setIfInBounds_toArray, List.set_cons_zero, List.set_cons_succ]
          refine wpAnyH_take (i := 11) (oi := { dst := some 38, op := Op.load 34 (Operand.tmp 37), type := 34, pos := "log.go:89", after := #[{ on := 10, ground := Ground.data }], guard := none }) (v := ?v11c) rfl (by kernel_rfl) (by kernel_rfl) (by kernel_rfl) (fun _ _ _ h => h) (Or.inl ⟨by rfl, ?h11c⟩) hHeld ?r11c
          case h11c => intro w hSw; (try dsimp only at hSw); go_simp; try with_reducible rfl
          try simp only [Act.put, List.setIfInBounds_toArray, List.set_cons_zero, List.set_cons_succ]
          refine wpAnyH_take (i := 12) (oi := { dst := some 39, op := Op.call { callee := Callee.builtin Builtin.len, args := #[Operand.tmp 38], argTypes := #[34] }, type := 3, pos := "log.go:89", after := #[{ on := 11, ground := Ground.data }], guard := none }) (v := .int .i64 ((m : Nat) : Int)) rfl (by kernel_rfl) (by kernel_rfl) (by kernel_rfl) (fun _ _ _ h => h) (Or.inl ⟨by rfl, ?h12c⟩) hHeld ?r12c
          case h12c => intro w hSw; (try dsimp only at hSw); go_simp; all_goals (have hac := HAC.out; first | omega | (rw [IntKind.wrap_i64]; omega) | (split <;> first | omega | (simp; omega)))
          try simp only [Act.put, List.setIfInBounds_toArray, List.set_cons_zero, List.set_cons_succ]
          refine wpAnyH_take (i := 13) (oi := { dst := some 40, op := Op.move (Operand.tmp 8), type := 3, pos := "log.go:89", after := #[], guard := none }) (v := ?v13c) rfl (by kernel_rfl) (by kernel_rfl) (by kernel_rfl) (fun _ _ _ h => h) (Or.inl ⟨by rfl, ?h13c⟩) hHeld ?r13c
          case h13c => intro w hSw; (try dsimp only at hSw); go_simp; try with_reducible rfl
          try simp only [Act.put, List.setIfInBounds_toArray, List.set_cons_zero, List.set_cons_succ]
          refine wpAnyH_take (i := 14) (oi := { dst := some 41, op := Op.binOp BinOp.sub 3 (Operand.tmp 39) (Operand.tmp 40) 3, type := 3, pos := "log.go:89", after := #[{ on := 12, ground := Ground.data }, { on := 13, ground := Ground.data }], guard := none }) (v := .int .i64 (D : Int)) rfl (by kernel_rfl) (by kernel_rfl) (by kernel_rfl) (fun _ _ _ h => h) (Or.inl ⟨by rfl, ?h14c⟩) hHeld ?r14c
          case h14c => intro w hSw; (try dsimp only at hSw); go_simp; all_goals (have hac := HAC.out; first | omega | (rw [IntKind.wrap_i64]; omega) | (split <;> first | omega | (simp; omega)))
          try simp only [Act.put, List.setIfInBounds_toArray, List.set_cons_zero, List.set_cons_succ]
          refine wpAnyH_take (i := 15) (oi := { dst := some 42, op := Op.call { callee := Callee.builtin Builtin.min, args := #[Operand.tmp 34, Operand.tmp 41], argTypes := #[3, 3] }, type := 3, pos := "log.go:89", after := #[{ on := 7, ground := Ground.data }, { on := 14, ground := Ground.data }], guard := none }) (v := .int .i64 (cn : Int)) rfl (by kernel_rfl) (by kernel_rfl) (by kernel_rfl) (fun _ _ _ h => h) (Or.inl ⟨by rfl, ?h15c⟩) hHeld ?r15c
          case h15c => intro w hSw; (try dsimp only at hSw); go_simp; all_goals (have hac := HAC.out; first | omega | (rw [IntKind.wrap_i64]; omega) | (split <;> first | omega | (simp; omega)))
          try simp only [Act.put, List.setIfInBounds_toArray, List.set_cons_zero, List.set_cons_succ]
          refine wpAnyH_take (i := 16) (oi := { dst := some 43, op := Op.binOp BinOp.add 3 (Operand.tmp 32) (Operand.tmp 42) 3, type := 3, pos := "log.go:89", after := #[{ on := 5, ground := Ground.data }, { on := 15, ground := Ground.data }], guard := none }) (v := .int .i64 ((n0 : Int) + (cn : Int))) rfl (by kernel_rfl) (by kernel_rfl) (by kernel_rfl) (fun _ _ _ h => h) (Or.inl ⟨by rfl, ?h16c⟩) hHeld ?r16c
          case h16c => intro w hSw; (try dsimp only at hSw); go_simp; all_goals (have hac := HAC.out; first | omega | (rw [IntKind.wrap_i64]; omega) | (split <;> first | omega | (simp; omega)))
          try simp only [Act.put, List.setIfInBounds_toArray, List.set_cons_zero, List.set_cons_succ]
          refine wpAnyH_take (i := 17) (oi := { dst := some 44, op := Op.slice 34 (Operand.tmp 30) (some (Operand.tmp 31)) (some (Operand.tmp 43)) none, type := 34, pos := "log.go:89", after := #[{ on := 3, ground := Ground.data }, { on := 4, ground := Ground.data }, { on := 16, ground := Ground.data }], guard := none }) (v := .slice (some ⟨g, n0 * 4, none⟩) cn (vc - n0)) rfl (by kernel_rfl) (by kernel_rfl) (by kernel_rfl) (fun _ _ _ h => h) (Or.inl ⟨by rfl, ?h17c⟩) hHeld ?r17c
          case h17c => intro w hSw; (try dsimp only at hSw); go_simp; all_goals (have hac := HAC.out; first | omega | (rw [IntKind.wrap_i64]; omega) | (split <;> first | omega | (simp; omega)))
          try simp only [Act.put, List.setIfInBounds_toArray, List.set_cons_zero, List.set_cons_succ]
          refine wpAnyH_ready (rs := [18]) (by kernel_rfl) (by simp) ?_
          refine AllReadyH.cons (o := { dst := some 45, op := Op.call { callee := Callee.value (Operand.func 16), args := #[Operand.tmp 44], argTypes := #[34] }, type := 34, pos := "log.go:89", after := #[{ on := 17, ground := Ground.data }], guard := none }) rfl (fun KK hK => ?_) ?_
          · go_simp
            go_wp2_with (go_at_call 16; refine (HCP.out _ hwd).mono ?_; rintro r w2 ⟨v, fs, rfl, q1, q2, q3⟩; have HB2 : Hid (Below w.heap.size w w2) := hwd.trans (q3.mono hwd.size); obtain ⟨⟨z0, -, z2, -, -, -, -, -⟩, zf, zb⟩ := HCS.out w2 HB2.out; have Q1 : Hid (EntsOw w.heap.size w2 v fs) := q1.base hwd.size; have Q2 : Hid (fs.map Ent.says = _) := q2; clear q1 q2 q3)
            refine hK.out _ _ z2 (fun hHeld => ?_)
            clear hK
            try simp only [Act.put, List.setIfInBounds_toArray, List.set_cons_zero, List.set_cons_succ]
            refine wpAnyH_take (i := 19) (oi := { dst := some 6, op := Op.assign (Operand.tmp 45), type := 34, pos := "log.go:89", after := #[{ on := 18, ground := Ground.data }, { on := 18, ground := Ground.chain }, { on := 0, ground := Ground.phase }, { on := 1, ground := Ground.phase }, { on := 2, ground := Ground.phase }, { on := 3, ground := Ground.phase }, { on := 4, ground := Ground.phase }, { on := 5, ground := Ground.phase }, { on := 6, ground := Ground.phase }, { on := 7, ground := Ground.phase }, { on := 8, ground := Ground.phase }, { on := 9, ground := Ground.phase }, { on := 10, ground := Ground.phase }, { on := 11, ground := Ground.phase }, { on := 12, ground := Ground.phase }, { on := 13, ground := Ground.phase }, { on := 14, ground := Ground.phase }, { on := 15, ground := Ground.phase }, { on := 16, ground := Ground.phase }, { on := 17, ground := Ground.phase }, { on := 18, ground := Ground.phase }], guard := none }) (v := ?v19c) rfl (by kernel_rfl) (by kernel_rfl) (by kernel_rfl) (fun _ _ _ h => h) (Or.inl ⟨by rfl, ?h19c⟩) hHeld ?r19c
            case h19c => intro w hSw; (try dsimp only at hSw); go_simp; try with_reducible rfl
            try simp only [Act.put, List.setIfInBounds_toArray, List.set_cons_zero, List.set_cons_succ]
            refine wpAnyH_take (i := 20) (oi := { dst := some 7, op := Op.assign (Operand.const (Value.int IntKind.i64 0)), type := 3, pos := "log.go:89", after := #[{ on := 19, ground := Ground.chain }, { on := 0, ground := Ground.phase }, { on := 1, ground := Ground.phase }, { on := 2, ground := Ground.phase }, { on := 3, ground := Ground.phase }, { on := 4, ground := Ground.phase }, { on := 5, ground := Ground.phase }, { on := 6, ground := Ground.phase }, { on := 7, ground := Ground.phase }, { on := 8, ground := Ground.phase }, { on := 9, ground := Ground.phase }, { on := 10, ground := Ground.phase }, { on := 11, ground := Ground.phase }, { on := 12, ground := Ground.phase }, { on := 13, ground := Ground.phase }, { on := 14, ground := Ground.phase }, { on := 15, ground := Ground.phase }, { on := 16, ground := Ground.phase }, { on := 17, ground := Ground.phase }, { on := 18, ground := Ground.phase }, { on := 19, ground := Ground.phase }], guard := none }) (v := ?v20c) rfl (by kernel_rfl) (by kernel_rfl) (by kernel_rfl) (fun _ _ _ h => h) (Or.inl ⟨by rfl, ?h20c⟩) hHeld ?r20c
            case h20c => intro w hSw; (try dsimp only at hSw); go_simp; try with_reducible rfl
            try simp only [Act.put, List.setIfInBounds_toArray, List.set_cons_zero, List.set_cons_succ]
            refine wpAnyH_done (by kernel_rfl) ?_ _
            go_wp2
            go_returns
            exact ⟨v, fs, rfl, Q1.out, Q2.out, HB2.out⟩
          exact AllReadyH.nil
end Go.Proofs.Yteekpfgjpdopmaa
