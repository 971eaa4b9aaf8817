/-
  The document's log: Compact.
-/
import Derived.Test.YteekpfgjpdopmaaRn
import Derived.Test.YteekpfgjpdopmaaCm
import Derived.Deep.RegionHeld3
namespace Go.Proofs.Yteekpfgjpdopmaa
open Go.RowKit
set_option linter.unusedVariables false

/-- The entries, the base are written. -/
theorem Rg.cut {N : Nat} {S : Nat → Prop} {w w9 : World} {b : Nat} {P : PL} (h : Rg N S w b P) (hN : N ≤ w.heap.size) (hB : Below w.heap.size w w9) {v' : Value} {gs : List Ent} (hF : EntsOw w.heap.size w9 v' gs) (k : Nat) (hE : gs.map Ent.says = P.E.drop k) (i t : Int) (ok : (⟨i, t, P.E.drop k, P.h, P.s, P.c, P.g, P.a⟩ : PL).Ok) :
    RTh N S w (((w9.setCell ⟨b, 2, none⟩ v').setCell ⟨b, 0, none⟩ (.int .i64 i)).setCell ⟨b, 1, none⟩ (.int .i64 t)) b ⟨i, t, P.E.drop k, P.h, P.s, P.c, P.g, P.a⟩ := by
  have h1 := h.rw.ents (Q := { P with E := P.E.drop k }) hN hB hF hE ⟨rfl, rfl, rfl, rfl, rfl, rfl, rfl⟩
  have h2 := h1.1.store (Q := { P with E := P.E.drop k, bi := i }) 0 (.int .i64 i) rfl (fun v => rfl)
  have h3 := h2.1.store (Q := ⟨i, t, P.E.drop k, P.h, P.s, P.c, P.g, P.a⟩) 1 (.int .i64 t) rfl (fun v => rfl)
  have hz : (((w9.setCell ⟨b, 2, none⟩ v').setCell ⟨b, 0, none⟩ (.int .i64 i)).setCell ⟨b, 1, none⟩ (.int .i64 t)).heap.size = w9.heap.size := by rw [size_set, size_set, size_set]
  have hg : grew S w (((w9.setCell ⟨b, 2, none⟩ v').setCell ⟨b, 0, none⟩ (.int .i64 i)).setCell ⟨b, 1, none⟩ (.int .i64 t)) = grew S w w9 := by unfold grew; rw [hz]
  have hsub : ∀ i, grew S w w9 i → i < w.heap.size → S i := fun i hi hl => hi.elim id (fun q => absurd q.1 (by omega))
  refine ⟨by rw [hg]; exact h3.1.rg ok, ?_⟩
  exact (h1.2.trans h2.2 hsub).trans h3.2 hsub

set_option maxRecDepth 100000 in
set_option maxHeartbeats 4000000 in
/-- Compact. -/
theorem RCompact_any {N : Nat} {S : Nat → Prop} {w : World} {b : Nat} {P : PL} (h : Rg N S w b P) (hN : N ≤ w.heap.size) (i : Int) :
    Calls Try.prog 54 #[.pointer (some ⟨b, 0, none⟩), .int .i64 i] w fun e w' => e = .returned (.int .i64 (cmE P i : Int)) ∧ RTh N S w w' b (cmP P i) := by
  obtain ⟨va, vc, hvc, hvm, hsh, hcs, hcp⟩ := h.copy
  have hbw := h.inn _ h.Sb
  have hlim := h.ok.lim
  have hb0 := h.ok.b0
  have hl2 := h.ok.len
  have HCS : Hid (∀ w1, Below w.heap.size w w1 → _) := hcs
  have HNO : Hid (cmE P i ≠ 0 → RTh N S w w b (cmP P i)) := fun he => by
    have : cmP P i = P := by unfold cmP; rw [if_neg he]
    rw [this]; exact h.th hN (Below.refl _ _)
  obtain ⟨⟨k0, -, k2, -, -, -, -, k7⟩, kf, kb⟩ := hcs w (Below.refl _ _)
  by_cases h1 : i < P.bi
  · have e1 : cmE P i = 14 := by unfold cmE; rw [if_pos h1]
    rw [e1]
    have HR := HNO.out (by rw [e1]; decide)
    have HRR : Hid (RTh N S w w b (cmP P i)) := HR
    clear HR h hcs hcp hsh hvc hvm hlim hb0 hl2 e1 HCS k2 HNO
    go_enter Try.func54, Try.ntmps54
    go_wp2
    go_ret
    exact ⟨rfl, HRR.out⟩
  · by_cases h2 : P.a < i
    · have e1 : cmE P i = 1 := by unfold cmE; rw [if_neg h1, if_pos h2]
      rw [e1]
      have HR := HNO.out (by rw [e1]; decide)
      have HRR : Hid (RTh N S w w b (cmP P i)) := HR
      clear HR h hcs hcp hsh hvc hvm hlim hb0 hl2 e1 HCS k2 HNO
      go_enter Try.func54, Try.ntmps54
      go_wp2
      go_ret
      exact ⟨rfl, HRR.out⟩
    · have e1 : cmE P i = 0 := by unfold cmE; rw [if_neg h1, if_neg h2]
      rw [e1]
      obtain ⟨n0, hn0⟩ : ∃ n0 : Nat, i - P.bi = (n0 : Int) := ⟨(i - P.bi).toNat, by omega⟩
      have hal : i ≤ P.li := by have := h.ok.ag; have := h.ok.gc; have := h.ok.cl; omega
      have hle : n0 ≤ P.E.length := by unfold PL.li at hal; omega
      have her : P.er i = 0 := by unfold PL.er; rw [if_neg h1, if_neg (by omega)]
      have htt : P.tt i = P.tm i := by unfold PL.tt; rw [her]; rfl
      have hcm : cmP P i = ⟨i, P.tm i, P.E.drop n0, P.h, P.s, P.c, P.g, P.a⟩ := by unfold cmP; rw [if_pos e1, show (i - P.bi).toNat = n0 by omega]
      have hok : (⟨i, P.tm i, P.E.drop n0, P.h, P.s, P.c, P.g, P.a⟩ : PL).Ok := by have := cm_ok h.ok (i := i) (by omega) (by omega); rw [show (i - P.bi).toNat = n0 by omega] at this; exact this
      rw [hcm]
      have HFN : Hid (∀ w9 v' gs, Below w.heap.size w w9 → EntsOw w.heap.size w9 v' gs → gs.map Ent.says = (P.E.drop n0).take (P.E.length - n0) → RTh N S w (((w9.setCell ⟨b, 2, none⟩ v').setCell ⟨b, 0, none⟩ (.int .i64 i)).setCell ⟨b, 1, none⟩ (.int .i64 (P.tm i))) b ⟨i, P.tm i, P.E.drop n0, P.h, P.s, P.c, P.g, P.a⟩) := fun w9 v' gs hB hO hsy => h.cut hN hB hO n0 (by rw [hsy, List.take_of_length_le (by simp)]) i (P.tm i) hok
      have HAT : Hid (Calls Try.prog 57 #[.pointer (some ⟨b, 0, none⟩), .int .i64 i] w fun e w' => e = .returned (.tuple #[.int .i64 (P.tm i), .int .i64 0]) ∧ Below w.heap.size w w') := by have := RAt_any h i; rw [her, htt] at this; exact this
      have hsb : IntKind.i64.wrap (i - P.bi) = (n0 : Int) := by rw [IntKind.wrap_i64]; omega
      have hcp' := hcp n0 (P.E.length - n0) (by omega)
      generalize P.tm i = ti at *
      generalize P.E.drop n0 = ED at *
      obtain ⟨m, hm⟩ : ∃ m, P.E.length = m := ⟨_, rfl⟩
      rw [hm] at hvc hl2 hsh HCS HFN hle hcp' k2
      clear h hcs hcp hlim hb0 e1 her htt hcm hok hal hn0 HNO hm
      have i0 : (0 : Int) ≤ (n0 : Int) := by omega
      have i1 : (n0 : Int) ≤ (m : Int) := by omega
      have i3 : (m : Int) ≤ (vc : Int) := by omega
      have hmn : ((m - n0 : Nat) : Int) = (m : Int) - (n0 : Int) := by omega
      unfold maxLen at hvm
      rcases hsh with ⟨rfl, rfl, hz⟩ | ⟨g, rfl⟩
      · subst hz
        obtain rfl : n0 = 0 := by omega
        have HCP : Hid (∀ w1, Below w.heap.size w w1 → Calls Try.prog 16 #[.slice none 0 0] w1 fun e w' => ∃ v fs, e = .returned v ∧ EntsOw w1.heap.size w' v fs ∧ fs.map Ent.says = ED.take (0 - 0) ∧ Below w1.heap.size w1 w') := fun w1 hB => hcp' w1 none 0 hB (.inl rfl)
        clear hcp' hmn
        go_enter Try.func54, Try.ntmps54
        go_wp2_with (go_at_call 57; refine HAT.out.mono ?_; rintro r w1 ⟨rfl, hB1⟩; have HB1 : Hid (Below w.heap.size w w1) := hB1; obtain ⟨⟨y0, -, y2, -, -, -, -, -⟩, yf, yb⟩ := HCS.out w1 hB1; have hwd : Below w.heap.size w w1.drew := (by exact hB1.drew); clear hB1)
        refine wp_region_held_drew (S := fun w' => w'.cell? ⟨b, 0, none⟩ = some (.int .i64 P.bi)) (by kernel_rfl) y0 (fun hHeld => ?_)
        refine wpAnyH_take (i := 0) (oi := { dst := some 25, op := Op.move (Operand.tmp 0), type := 29, pos := "log.go:209", after := #[], guard := none }) (v := ?v0a) rfl (by kernel_rfl) (by kernel_rfl) (by kernel_rfl) (fun _ _ _ h => h) (Or.inl ⟨by rfl, ?h0a⟩) hHeld ?r0a
        case h0a => intro w hSw; (try dsimp only at hSw); go_simp; try with_reducible rfl
        try simp only [Act.put, List.setIfInBounds_toArray, List.set_cons_zero, List.set_cons_succ]
        refine wpAnyH_take (i := 1) (oi := { dst := some 26, op := Op.move (Operand.tmp 0), type := 29, pos := "log.go:209", after := #[], guard := none }) (v := ?v1a) rfl (by kernel_rfl) (by kernel_rfl) (by kernel_rfl) (fun _ _ _ h => h) (Or.inl ⟨by rfl, ?h1a⟩) hHeld ?r1a
        case h1a => intro w hSw; (try dsimp only at hSw); go_simp; try with_reducible rfl
        try simp only [Act.put, List.setIfInBounds_toArray, List.set_cons_zero, List.set_cons_succ]
        refine wpAnyH_take (i := 2) (oi := { dst := some 27, op := Op.nilCheck (Operand.tmp 26), type := 0, pos := "log.go:209", after := #[{ on := 1, ground := Ground.data }], guard := none }) (v := ?v2a) rfl (by kernel_rfl) (by kernel_rfl) (by kernel_rfl) (fun _ _ _ h => h) (Or.inl ⟨by rfl, ?h2a⟩) hHeld ?r2a
        case h2a => intro w hSw; (try dsimp only at hSw); go_simp; try with_reducible rfl
        try simp only [Act.put, List.setIfInBounds_toArray, List.set_cons_zero, List.set_cons_succ]
        refine wpAnyH_take (i := 3) (oi := { dst := some 28, op := Op.fieldAddr 82 (Operand.tmp 27) 2, type := 0, pos := "log.go:209", after := #[{ on := 2, ground := Ground.data }], guard := none }) (v := ?v3a) rfl (by kernel_rfl) (by kernel_rfl) (by kernel_rfl) (fun _ _ _ h => h) (Or.inl ⟨by rfl, ?h3a⟩) hHeld ?r3a
        case h3a => intro w hSw; (try dsimp only at hSw); go_simp; try with_reducible rfl
        try simp only [Act.put, List.setIfInBounds_toArray, List.set_cons_zero, List.set_cons_succ]
        refine wpAnyH_take (i := 5) (oi := { dst := some 30, op := Op.move (Operand.tmp 1), type := 3, pos := "log.go:209", after := #[], guard := none }) (v := ?v5a) rfl (by kernel_rfl) (by kernel_rfl) (by kernel_rfl) (fun _ _ _ h => h) (Or.inl ⟨by rfl, ?h5a⟩) hHeld ?r5a
        case h5a => intro w hSw; (try dsimp only at hSw); go_simp; try with_reducible rfl
        try simp only [Act.put, List.setIfInBounds_toArray, List.set_cons_zero, List.set_cons_succ]
        refine wpAnyH_take (i := 6) (oi := { dst := some 31, op := Op.move (Operand.tmp 0), type := 29, pos := "log.go:209", after := #[], guard := none }) (v := ?v6a) rfl (by kernel_rfl) (by kernel_rfl) (by kernel_rfl) (fun _ _ _ h => h) (Or.inl ⟨by rfl, ?h6a⟩) hHeld ?r6a
        case h6a => intro w hSw; (try dsimp only at hSw); go_simp; try with_reducible rfl
        try simp only [Act.put, List.setIfInBounds_toArray, List.set_cons_zero, List.set_cons_succ]
        refine wpAnyH_take (i := 7) (oi := { dst := some 32, op := Op.nilCheck (Operand.tmp 31), type := 0, pos := "log.go:209", after := #[{ on := 6, ground := Ground.data }], guard := none }) (v := ?v7a) rfl (by kernel_rfl) (by kernel_rfl) (by kernel_rfl) (fun _ _ _ h => h) (Or.inl ⟨by rfl, ?h7a⟩) hHeld ?r7a
        case h7a => intro w hSw; (try dsimp only at hSw); go_simp; try with_reducible rfl
        try simp only [Act.put, List.setIfInBounds_toArray, List.set_cons_zero, List.set_cons_succ]
        refine wpAnyH_take (i := 8) (oi := { dst := some 33, op := Op.fieldAddr 82 (Operand.tmp 32) 0, type := 0, pos := "log.go:209", after := #[{ on := 7, ground := Ground.data }], guard := none }) (v := ?v8a) rfl (by kernel_rfl) (by kernel_rfl) (by kernel_rfl) (fun _ _ _ h => h) (Or.inl ⟨by rfl, ?h8a⟩) hHeld ?r8a
        case h8a => intro w hSw; (try dsimp only at hSw); go_simp; try with_reducible rfl
        try simp only [Act.put, List.setIfInBounds_toArray, List.set_cons_zero, List.set_cons_succ]
        refine wpAnyH_take (i := 9) (oi := { dst := some 34, op := Op.load 3 (Operand.tmp 33), type := 3, pos := "log.go:209", after := #[{ on := 8, ground := Ground.data }], guard := none }) (v := ?v9a) rfl (by kernel_rfl) (by kernel_rfl) (by kernel_rfl) (fun _ _ _ h => h) (Or.inl ⟨by rfl, ?h9a⟩) hHeld ?r9a
        case h9a => intro w hSw; (try dsimp only at hSw); go_simp; try with_reducible rfl
        try simp only [Act.put, List.setIfInBounds_toArray, List.set_cons_zero, List.set_cons_succ]
        refine wpAnyH_take (i := 10) (oi := { dst := some 35, op := Op.binOp BinOp.sub 3 (Operand.tmp 30) (Operand.tmp 34) 3, type := 3, pos := "log.go:209", after := #[{ on := 5, ground := Ground.data }, { on := 9, ground := Ground.data }], guard := none }) (v := ?v10a) rfl (by kernel_rfl) (by kernel_rfl) (by kernel_rfl) (fun _ _ _ h => h) (Or.inl ⟨by rfl, ?h10a⟩) hHeld ?r10a
        case h10a => intro w hSw; (try dsimp only at hSw); go_simp; try with_reducible rfl
        try simp only [Act.put, List.setIfInBounds_toArray, List.set_cons_zero, List.set_cons_succ]
        refine wpAnyH_ready (rs := [4]) (by kernel_rfl) (by simp) ?_
        refine AllReadyH.cons (o := { dst := some 29, op := Op.load 34 (Operand.tmp 28), type := 34, pos := "log.go:209", after := #[{ on := 3, ground := Ground.data }], guard := none }) rfl (fun KK hK => ?_) ?_
        · go_simp
          refine hK.out _ _ y0 (fun hHeld => ?_)
          clear hK
          try simp only [Act.put, List.setIfInBounds_toArray, List.set_cons_zero, List.set_cons_succ]
          refine wpAnyH_take (i := 11) (oi := { dst := some 36, op := Op.slice 34 (Operand.tmp 29) (some (Operand.tmp 35)) none none, type := 34, pos := "log.go:209", after := #[{ on := 4, ground := Ground.data }, { on := 10, ground := Ground.data }], guard := none }) (v := .slice none 0 0) rfl (by kernel_rfl) (by kernel_rfl) (by kernel_rfl) (fun _ _ _ h => h) (Or.inl ⟨by rfl, ?h11a⟩) hHeld ?r11a
          case h11a => intro w hSw; (try dsimp only at hSw); go_simp; all_goals (first | omega | (rw [IntKind.wrap_i64]; omega))
          try simp only [Act.put, List.setIfInBounds_toArray, List.set_cons_zero, List.set_cons_succ]
          refine wpAnyH_ready (rs := [12]) (by kernel_rfl) (by simp) ?_
          refine AllReadyH.cons (o := { dst := some 37, op := Op.call { callee := Callee.value (Operand.func 16), args := #[Operand.tmp 36], argTypes := #[34] }, type := 34, pos := "log.go:209", after := #[{ on := 11, ground := Ground.data }], guard := none }) rfl (fun KK hK => ?_) ?_
          · go_simp
            go_wp2_with (go_at_call 16; refine (HCP.out _ hwd).mono ?_; rintro r w2 ⟨v, fs, rfl, q1, q2, q3⟩; have HB2 : Hid (Below w.heap.size w w2) := hwd.trans (q3.mono hwd.size); obtain ⟨⟨z0, z1, z2, -, -, -, -, -⟩, zf, zb⟩ := HCS.out w2 HB2.out; obtain ⟨sa, sc, rfl, -, -⟩ := q1.shape; have Q1 : Hid (EntsOw w.heap.size w2 (.slice sa fs.length sc) fs) := q1.base hwd.size; have Q2 : Hid (fs.map Ent.says = _) := q2; clear q1 q2 q3)
            refine hK.out _ _ z0 (fun hHeld => ?_)
            clear hK
            try simp only [Act.put, List.setIfInBounds_toArray, List.set_cons_zero, List.set_cons_succ]
            refine wpAnyH_take (i := 13) (oi := { dst := some 38, op := Op.nilCheck (Operand.tmp 25), type := 0, pos := "log.go:209", after := #[{ on := 0, ground := Ground.data }, { on := 0, ground := Ground.phase }, { on := 1, ground := Ground.phase }, { on := 2, ground := Ground.phase }, { on := 3, ground := Ground.phase }, { on := 4, ground := Ground.phase }, { on := 5, ground := Ground.phase }, { on := 6, ground := Ground.phase }, { on := 7, ground := Ground.phase }, { on := 8, ground := Ground.phase }, { on := 9, ground := Ground.phase }, { on := 10, ground := Ground.phase }, { on := 11, ground := Ground.phase }, { on := 12, ground := Ground.phase }], guard := none }) (v := ?v13a) rfl (by kernel_rfl) (by kernel_rfl) (by kernel_rfl) (fun _ _ _ h => h) (Or.inl ⟨by rfl, ?h13a⟩) hHeld ?r13a
            case h13a => intro w hSw; (try dsimp only at hSw); go_simp; try with_reducible rfl
            try simp only [Act.put, List.setIfInBounds_toArray, List.set_cons_zero, List.set_cons_succ]
            refine wpAnyH_take (i := 14) (oi := { dst := some 39, op := Op.fieldAddr 82 (Operand.tmp 38) 2, type := 0, pos := "log.go:209", after := #[{ on := 13, ground := Ground.data }, { on := 0, ground := Ground.phase }, { on := 1, ground := Ground.phase }, { on := 2, ground := Ground.phase }, { on := 3, ground := Ground.phase }, { on := 4, ground := Ground.phase }, { on := 5, ground := Ground.phase }, { on := 6, ground := Ground.phase }, { on := 7, ground := Ground.phase }, { on := 8, ground := Ground.phase }, { on := 9, ground := Ground.phase }, { on := 10, ground := Ground.phase }, { on := 11, ground := Ground.phase }, { on := 12, ground := Ground.phase }], guard := none }) (v := ?v14a) rfl (by kernel_rfl) (by kernel_rfl) (by kernel_rfl) (fun _ _ _ h => h) (Or.inl ⟨by rfl, ?h14a⟩) hHeld ?r14a
            case h14a => intro w hSw; (try dsimp only at hSw); go_simp; try with_reducible rfl
            try simp only [Act.put, List.setIfInBounds_toArray, List.set_cons_zero, List.set_cons_succ]
            refine wpAnyH_ready (rs := [15]) (by kernel_rfl) (by simp) ?_
            refine AllReadyH.cons (o := { dst := none, op := Op.store 34 (Operand.tmp 39) (Operand.tmp 37), type := 0, pos := "log.go:209", after := #[{ on := 14, ground := Ground.data }, { on := 12, ground := Ground.data }, { on := 12, ground := Ground.chain }, { on := 0, ground := Ground.phase }, { on := 1, ground := Ground.phase }, { on := 2, ground := Ground.phase }, { on := 3, ground := Ground.phase }, { on := 4, ground := Ground.phase }, { on := 5, ground := Ground.phase }, { on := 6, ground := Ground.phase }, { on := 7, ground := Ground.phase }, { on := 8, ground := Ground.phase }, { on := 9, ground := Ground.phase }, { on := 10, ground := Ground.phase }, { on := 11, ground := Ground.phase }, { on := 12, ground := Ground.phase }], guard := none }) rfl (fun KK hK => ?_) ?_
            · go_simp
              refine hK.out _ _ ?hsa (fun hHeld => ?_)
              case hsa => exact (World.cell?_setCell_other _ ⟨b, 2, none⟩ ⟨b, 0, none⟩ _ (by simp)).trans z0
              clear hK
              refine wpAnyH_done (by kernel_rfl) ?_ _
              go_wp2
              go_ret
              exact ⟨rfl, HFN.out w2 _ fs HB2.out Q1.out Q2.out⟩
            exact AllReadyH.nil
          exact AllReadyH.nil
        exact AllReadyH.nil
      · by_cases hvn : vc = n0
        · subst hvn
          obtain rfl : m = vc := by omega
          rw [Nat.sub_self] at hcp' HFN
          have HCP : Hid (∀ w1, Below w.heap.size w w1 → Calls Try.prog 16 #[.slice (some ⟨g, 0, none⟩) 0 0] w1 fun e w' => ∃ v fs, e = .returned v ∧ EntsOw w1.heap.size w' v fs ∧ fs.map Ent.says = ED.take 0 ∧ Below w1.heap.size w1 w') := fun w1 hB => hcp' w1 _ 0 hB (.inl rfl)
          clear hcp' hmn
          go_enter Try.func54, Try.ntmps54
          go_wp2_with (go_at_call 57; refine HAT.out.mono ?_; rintro r w1 ⟨rfl, hB1⟩; have HB1 : Hid (Below w.heap.size w w1) := hB1; obtain ⟨⟨y0, -, y2, -, -, -, -, -⟩, yf, yb⟩ := HCS.out w1 hB1; have hwd : Below w.heap.size w w1.drew := (by exact hB1.drew); clear hB1)
          refine wp_region_held_drew (S := fun w' => w'.cell? ⟨b, 0, none⟩ = some (.int .i64 P.bi)) (by kernel_rfl) y0 (fun hHeld => ?_)
          refine wpAnyH_take (i := 0) (oi := { dst := some 25, op := Op.move (Operand.tmp 0), type := 29, pos := "log.go:209", after := #[], guard := none }) (v := ?v0b) rfl (by kernel_rfl) (by kernel_rfl) (by kernel_rfl) (fun _ _ _ h => h) (Or.inl ⟨by rfl, ?h0b⟩) hHeld ?r0b
          case h0b => intro w hSw; (try dsimp only at hSw); go_simp; try with_reducible rfl
          try simp only [Act.put, List.setIfInBounds_toArray, List.set_cons_zero, List.set_cons_succ]
          refine wpAnyH_take (i := 1) (oi := { dst := some 26, op := Op.move (Operand.tmp 0), type := 29, pos := "log.go:209", after := #[], guard := none }) (v := ?v1b) rfl (by kernel_rfl) (by kernel_rfl) (by kernel_rfl) (fun _ _ _ h => h) (Or.inl ⟨by rfl, ?h1b⟩) hHeld ?r1b
          case h1b => intro w hSw; (try dsimp only at hSw); go_simp; try with_reducible rfl
          try simp only [Act.put, List.setIfInBounds_toArray, List.set_cons_zero, List.set_cons_succ]
          refine wpAnyH_take (i := 2) (oi := { dst := some 27, op := Op.nilCheck (Operand.tmp 26), type := 0, pos := "log.go:209", after := #[{ on := 1, ground := Ground.data }], guard := none }) (v := ?v2b) rfl (by kernel_rfl) (by kernel_rfl) (by kernel_rfl) (fun _ _ _ h => h) (Or.inl ⟨by rfl, ?h2b⟩) hHeld ?r2b
          case h2b => intro w hSw; (try dsimp only at hSw); go_simp; try with_reducible rfl
          try simp only [Act.put, List.setIfInBounds_toArray, List.set_cons_zero, List.set_cons_succ]
          refine wpAnyH_take (i := 3) (oi := { dst := some 28, op := Op.fieldAddr 82 (Operand.tmp 27) 2, type := 0, pos := "log.go:209", after := #[{ on := 2, ground := Ground.data }], guard := none }) (v := ?v3b) rfl (by kernel_rfl) (by kernel_rfl) (by kernel_rfl) (fun _ _ _ h => h) (Or.inl ⟨by rfl, ?h3b⟩) hHeld ?r3b
          case h3b => intro w hSw; (try dsimp only at hSw); go_simp; try with_reducible rfl
          try simp only [Act.put, List.setIfInBounds_toArray, List.set_cons_zero, List.set_cons_succ]
          refine wpAnyH_take (i := 5) (oi := { dst := some 30, op := Op.move (Operand.tmp 1), type := 3, pos := "log.go:209", after := #[], guard := none }) (v := ?v5b) rfl (by kernel_rfl) (by kernel_rfl) (by kernel_rfl) (fun _ _ _ h => h) (Or.inl ⟨by rfl, ?h5b⟩) hHeld ?r5b
          case h5b => intro w hSw; (try dsimp only at hSw); go_simp; try with_reducible rfl
          try simp only [Act.put, List.setIfInBounds_toArray, List.set_cons_zero, List.set_cons_succ]
          refine wpAnyH_take (i := 6) (oi := { dst := some 31, op := Op.move (Operand.tmp 0), type := 29, pos := "log.go:209", after := #[], guard := none }) (v := ?v6b) rfl (by kernel_rfl) (by kernel_rfl) (by kernel_rfl) (fun _ _ _ h => h) (Or.inl ⟨by rfl, ?h6b⟩) hHeld ?r6b
          case h6b => intro w hSw; (try dsimp only at hSw); go_simp; try with_reducible rfl
          try simp only [Act.put, List.setIfInBounds_toArray, List.set_cons_zero, List.set_cons_succ]
          refine wpAnyH_take (i := 7) (oi := { dst := some 32, op := Op.nilCheck (Operand.tmp 31), type := 0, pos := "log.go:209", after := #[{ on := 6, ground := Ground.data }], guard := none }) (v := ?v7b) rfl (by kernel_rfl) (by kernel_rfl) (by kernel_rfl) (fun _ _ _ h => h) (Or.inl ⟨by rfl, ?h7b⟩) hHeld ?r7b
          case h7b => intro w hSw; (try dsimp only at hSw); go_simp; try with_reducible rfl
          try simp only [Act.put, List.setIfInBounds_toArray, List.set_cons_zero, List.set_cons_succ]
          refine wpAnyH_take (i := 8) (oi := { dst := some 33, op := Op.fieldAddr 82 (Operand.tmp 32) 0, type := 0, pos := "log.go:209", after := #[{ on := 7, ground := Ground.data }], guard := none }) (v := ?v8b) rfl (by kernel_rfl) (by kernel_rfl) (by kernel_rfl) (fun _ _ _ h => h) (Or.inl ⟨by rfl, ?h8b⟩) hHeld ?r8b
          case h8b => intro w hSw; (try dsimp only at hSw); go_simp; try with_reducible rfl
          try simp only [Act.put, List.setIfInBounds_toArray, List.set_cons_zero, List.set_cons_succ]
          refine wpAnyH_take (i := 9) (oi := { dst := some 34, op := Op.load 3 (Operand.tmp 33), type := 3, pos := "log.go:209", after := #[{ on := 8, ground := Ground.data }], guard := none }) (v := ?v9b) rfl (by kernel_rfl) (by kernel_rfl) (by kernel_rfl) (fun _ _ _ h => h) (Or.inl ⟨by rfl, ?h9b⟩) hHeld ?r9b
          case h9b => intro w hSw; (try dsimp only at hSw); go_simp; try with_reducible rfl
          try simp only [Act.put, List.setIfInBounds_toArray, List.set_cons_zero, List.set_cons_succ]
          refine wpAnyH_take (i := 10) (oi := { dst := some 35, op := Op.binOp BinOp.sub 3 (Operand.tmp 30) (Operand.tmp 34) 3, type := 3, pos := "log.go:209", after := #[{ on := 5, ground := Ground.data }, { on := 9, ground := Ground.data }], guard := none }) (v := ?v10b) rfl (by kernel_rfl) (by kernel_rfl) (by kernel_rfl) (fun _ _ _ h => h) (Or.inl ⟨by rfl, ?h10b⟩) hHeld ?r10b
          case h10b => intro w hSw; (try dsimp only at hSw); go_simp; try with_reducible rfl
          try simp only [Act.put, List.setIfInBounds_toArray, List.set_cons_zero, List.set_cons_succ]
          refine wpAnyH_ready (rs := [4]) (by kernel_rfl) (by simp) ?_
          refine AllReadyH.cons (o := { dst := some 29, op := Op.load 34 (Operand.tmp 28), type := 34, pos := "log.go:209", after := #[{ on := 3, ground := Ground.data }], guard := none }) rfl (fun KK hK => ?_) ?_
          · go_simp
            refine hK.out _ _ y0 (fun hHeld => ?_)
            clear hK
            try simp only [Act.put, List.setIfInBounds_toArray, List.set_cons_zero, List.set_cons_succ]
            refine wpAnyH_take (i := 11) (oi := { dst := some 36, op := Op.slice 34 (Operand.tmp 29) (some (Operand.tmp 35)) none none, type := 34, pos := "log.go:209", after := #[{ on := 4, ground := Ground.data }, { on := 10, ground := Ground.data }], guard := none }) (v := .slice (some ⟨g, 0, none⟩) 0 0) rfl (by kernel_rfl) (by kernel_rfl) (by kernel_rfl) (fun _ _ _ h => h) (Or.inl ⟨by rfl, ?h11b⟩) hHeld ?r11b
            case h11b => intro w hSw; (try dsimp only at hSw); go_simp; all_goals (first | omega | (rw [IntKind.wrap_i64]; omega))
            try simp only [Act.put, List.setIfInBounds_toArray, List.set_cons_zero, List.set_cons_succ]
            refine wpAnyH_ready (rs := [12]) (by kernel_rfl) (by simp) ?_
            refine AllReadyH.cons (o := { dst := some 37, op := Op.call { callee := Callee.value (Operand.func 16), args := #[Operand.tmp 36], argTypes := #[34] }, type := 34, pos := "log.go:209", after := #[{ on := 11, ground := Ground.data }], guard := none }) rfl (fun KK hK => ?_) ?_
            · go_simp
              go_wp2_with (go_at_call 16; refine (HCP.out _ hwd).mono ?_; rintro r w2 ⟨v, fs, rfl, q1, q2, q3⟩; have HB2 : Hid (Below w.heap.size w w2) := hwd.trans (q3.mono hwd.size); obtain ⟨⟨z0, z1, z2, -, -, -, -, -⟩, zf, zb⟩ := HCS.out w2 HB2.out; obtain ⟨sa, sc, rfl, -, -⟩ := q1.shape; have Q1 : Hid (EntsOw w.heap.size w2 (.slice sa fs.length sc) fs) := q1.base hwd.size; have Q2 : Hid (fs.map Ent.says = _) := q2; clear q1 q2 q3)
              refine hK.out _ _ z0 (fun hHeld => ?_)
              clear hK
              try simp only [Act.put, List.setIfInBounds_toArray, List.set_cons_zero, List.set_cons_succ]
              refine wpAnyH_take (i := 13) (oi := { dst := some 38, op := Op.nilCheck (Operand.tmp 25), type := 0, pos := "log.go:209", after := #[{ on := 0, ground := Ground.data }, { on := 0, ground := Ground.phase }, { on := 1, ground := Ground.phase }, { on := 2, ground := Ground.phase }, { on := 3, ground := Ground.phase }, { on := 4, ground := Ground.phase }, { on := 5, ground := Ground.phase }, { on := 6, ground := Ground.phase }, { on := 7, ground := Ground.phase }, { on := 8, ground := Ground.phase }, { on := 9, ground := Ground.phase }, { on := 10, ground := Ground.phase }, { on := 11, ground := Ground.phase }, { on := 12, ground := Ground.phase }], guard := none }) (v := ?v13b) rfl (by kernel_rfl) (by kernel_rfl) (by kernel_rfl) (fun _ _ _ h => h) (Or.inl ⟨by rfl, ?h13b⟩) hHeld ?r13b
              case h13b => intro w hSw; (try dsimp only at hSw); go_simp; try with_reducible rfl
              try simp only [Act.put, List.setIfInBounds_toArray, List.set_cons_zero, List.set_cons_succ]
              refine wpAnyH_take (i := 14) (oi := { dst := some 39, op := Op.fieldAddr 82 (Operand.tmp 38) 2, type := 0, pos := "log.go:209", after := #[{ on := 13, ground := Ground.data }, { on := 0, ground := Ground.phase }, { on := 1, ground := Ground.phase }, { on := 2, ground := Ground.phase }, { on := 3, ground := Ground.phase }, { on := 4, ground := Ground.phase }, { on := 5, ground := Ground.phase }, { on := 6, ground := Ground.phase }, { on := 7, ground := Ground.phase }, { on := 8, ground := Ground.phase }, { on := 9, ground := Ground.phase }, { on := 10, ground := Ground.phase }, { on := 11, ground := Ground.phase }, { on := 12, ground := Ground.phase }], guard := none }) (v := ?v14b) rfl (by kernel_rfl) (by kernel_rfl) (by kernel_rfl) (fun _ _ _ h => h) (Or.inl ⟨by rfl, ?h14b⟩) hHeld ?r14b
              case h14b => intro w hSw; (try dsimp only at hSw); go_simp; try with_reducible rfl
              try simp only [Act.put, List.setIfInBounds_toArray, List.set_cons_zero, List.set_cons_succ]
              refine wpAnyH_ready (rs := [15]) (by kernel_rfl) (by simp) ?_
              refine AllReadyH.cons (o := { dst := none, op := Op.store 34 (Operand.tmp 39) (Operand.tmp 37), type := 0, pos := "log.go:209", after := #[{ on := 14, ground := Ground.data }, { on := 12, ground := Ground.data }, { on := 12, ground := Ground.chain }, { on := 0, ground := Ground.phase }, { on := 1, ground := Ground.phase }, { on := 2, ground := Ground.phase }, { on := 3, ground := Ground.phase }, { on := 4, ground := Ground.phase }, { on := 5, ground := Ground.phase }, { on := 6, ground := Ground.phase }, { on := 7, ground := Ground.phase }, { on := 8, ground := Ground.phase }, { on := 9, ground := Ground.phase }, { on := 10, ground := Ground.phase }, { on := 11, ground := Ground.phase }, { on := 12, ground := Ground.phase }], guard := none }) rfl (fun KK hK => ?_) ?_
              · go_simp
                refine hK.out _ _ ?hsb (fun hHeld => ?_)
                case hsb => exact (World.cell?_setCell_other _ ⟨b, 2, none⟩ ⟨b, 0, none⟩ _ (by simp)).trans z0
                clear hK
                refine wpAnyH_done (by kernel_rfl) ?_ _
                go_wp2
                go_ret
                exact ⟨rfl, HFN.out w2 _ fs HB2.out Q1.out Q2.out⟩
              exact AllReadyH.nil
            exact AllReadyH.nil
          exact AllReadyH.nil
        · have HCP : Hid (∀ w1, Below w.heap.size w w1 → Calls Try.prog 16 #[.slice (some ⟨g, n0 * 4, none⟩) (m - n0) (vc - n0)] w1 fun e w' => ∃ v fs, e = .returned v ∧ EntsOw w1.heap.size w' v fs ∧ fs.map Ent.says = ED.take (m - n0) ∧ Below w1.heap.size w1 w') := fun w1 hB => hcp' w1 _ _ hB (.inr (.inr ⟨g, rfl, rfl⟩))
          clear hcp'
          go_enter Try.func54, Try.ntmps54
          go_wp2_with (go_at_call 57; refine HAT.out.mono ?_; rintro r w1 ⟨rfl, hB1⟩; have HB1 : Hid (Below w.heap.size w w1) := hB1; obtain ⟨⟨y0, -, y2, -, -, -, -, -⟩, yf, yb⟩ := HCS.out w1 hB1; have hwd : Below w.heap.size w w1.drew := (by exact hB1.drew); clear hB1)
          refine wp_region_held_drew (S := fun w' => w'.cell? ⟨b, 0, none⟩ = some (.int .i64 P.bi)) (by kernel_rfl) y0 (fun hHeld => ?_)
          refine wpAnyH_take (i := 0) (oi := { dst := some 25, op := Op.move (Operand.tmp 0), type := 29, pos := "log.go:209", after := #[], guard := none }) (v := ?v0c) rfl (by kernel_rfl) (by kernel_rfl) (by kernel_rfl) (fun _ _ _ h => h) (Or.inl ⟨by rfl, ?h0c⟩) hHeld ?r0c
          case h0c => intro w hSw; (try dsimp only at hSw); go_simp; try with_reducible rfl
          try simp only [Act.put, List.setIfInBounds_toArray, List.set_cons_zero, List.set_cons_succ]
          refine wpAnyH_take (i := 1) (oi := { dst := some 26, op := Op.move (Operand.tmp 0), type := 29, pos := "log.go:209", after := #[], guard := none }) (v := ?v1c) rfl (by kernel_rfl) (by kernel_rfl) (by kernel_rfl) (fun _ _ _ h => h) (Or.inl ⟨by rfl, ?h1c⟩) hHeld ?r1c
          case h1c => intro w hSw; (try dsimp only at hSw); go_simp; try with_reducible rfl
          try simp only [Act.put, List.setIfInBounds_toArray, List.set_cons_zero, List.set_cons_succ]
          refine wpAnyH_take (i := 2) (oi := { dst := some 27, op := Op.nilCheck (Operand.tmp 26), type := 0, pos := "log.go:209", after := #[{ on := 1, ground := Ground.data }], guard := none }) (v := ?v2c) rfl (by kernel_rfl) (by kernel_rfl) (by kernel_rfl) (fun _ _ _ h => h) (Or.inl ⟨by rfl, ?h2c⟩) hHeld ?r2c
          case h2c => intro w hSw; (try dsimp only at hSw); go_simp; try with_reducible rfl
          try simp only [Act.put, List.setIfInBounds_toArray, List.set_cons_zero, List.set_cons_succ]
          refine wpAnyH_take (i := 3) (oi := { dst := some 28, op := Op.fieldAddr 82 (Operand.tmp 27) 2, type := 0, pos := "log.go:209", after := #[{ on := 2, ground := Ground.data }], guard := none }) (v := ?v3c) rfl (by kernel_rfl) (by kernel_rfl) (by kernel_rfl) (fun _ _ _ h => h) (Or.inl ⟨by rfl, ?h3c⟩) hHeld ?r3c
          case h3c => intro w hSw; (try dsimp only at hSw); go_simp; try with_reducible rfl
          try simp only [Act.put, List.setIfInBounds_toArray, List.set_cons_zero, List.set_cons_succ]
          refine wpAnyH_take (i := 5) (oi := { dst := some 30, op := Op.move (Operand.tmp 1), type := 3, pos := "log.go:209", after := #[], guard := none }) (v := ?v5c) rfl (by kernel_rfl) (by kernel_rfl) (by kernel_rfl) (fun _ _ _ h => h) (Or.inl ⟨by rfl, ?h5c⟩) hHeld ?r5c
          case h5c => intro w hSw; (try dsimp only at hSw); go_simp; try with_reducible rfl
          try simp only [Act.put, List.setIfInBounds_toArray, List.set_cons_zero, List.set_cons_succ]
          refine wpAnyH_take (i := 6) (oi := { dst := some 31, op := Op.move (Operand.tmp 0), type := 29, pos := "log.go:209", after := #[], guard := none }) (v := ?v6c) rfl (by kernel_rfl) (by kernel_rfl) (by kernel_rfl) (fun _ _ _ h => h) (Or.inl ⟨by rfl, ?h6c⟩) hHeld ?r6c
          case h6c => intro w hSw; (try dsimp only at hSw); go_simp; try with_reducible rfl
          try simp only [Act.put, List.setIfInBounds_toArray, List.set_cons_zero, List.set_cons_succ]
          refine wpAnyH_take (i := 7) (oi := { dst := some 32, op := Op.nilCheck (Operand.tmp 31), type := 0, pos := "log.go:209", after := #[{ on := 6, ground := Ground.data }], guard := none }) (v := ?v7c) rfl (by kernel_rfl) (by kernel_rfl) (by kernel_rfl) (fun _ _ _ h => h) (Or.inl ⟨by rfl, ?h7c⟩) hHeld ?r7c
          case h7c => intro w hSw; (try dsimp only at hSw); go_simp; try with_reducible rfl
          try simp only [Act.put, List.setIfInBounds_toArray, List.set_cons_zero, List.set_cons_succ]
          refine wpAnyH_take (i := 8) (oi := { dst := some 33, op := Op.fieldAddr 82 (Operand.tmp 32) 0, type := 0, pos := "log.go:209", after := #[{ on := 7, ground := Ground.data }], guard := none }) (v := ?v8c) rfl (by kernel_rfl) (by kernel_rfl) (by kernel_rfl) (fun _ _ _ h => h) (Or.inl ⟨by rfl, ?h8c⟩) hHeld ?r8c
          case h8c => intro w hSw; (try dsimp only at hSw); go_simp; try with_reducible rfl
          try simp only [Act.put, List.setIfInBounds_toArray, List.set_cons_zero, List.set_cons_succ]
          refine wpAnyH_take (i := 9) (oi := { dst := some 34, op := Op.load 3 (Operand.tmp 33), type := 3, pos := "log.go:209", after := #[{ on := 8, ground := Ground.data }], guard := none }) (v := ?v9c) rfl (by kernel_rfl) (by kernel_rfl) (by kernel_rfl) (fun _ _ _ h => h) (Or.inl ⟨by rfl, ?h9c⟩) hHeld ?r9c
          case h9c => intro w hSw; (try dsimp only at hSw); go_simp; try with_reducible rfl
          try simp only [Act.put, List.setIfInBounds_toArray, List.set_cons_zero, List.set_cons_succ]
          refine wpAnyH_take (i := 10) (oi := { dst := some 35, op := Op.binOp BinOp.sub 3 (Operand.tmp 30) (Operand.tmp 34) 3, type := 3, pos := "log.go:209", after := #[{ on := 5, ground := Ground.data }, { on := 9, ground := Ground.data }], guard := none }) (v := ?v10c) rfl (by kernel_rfl) (by kernel_rfl) (by kernel_rfl) (fun _ _ _ h => h) (Or.inl ⟨by rfl, ?h10c⟩) hHeld ?r10c
          case h10c => intro w hSw; (try dsimp only at hSw); go_simp; try with_reducible rfl
          try simp only [Act.put, List.setIfInBounds_toArray, List.set_cons_zero, List.set_cons_succ]
          refine wpAnyH_ready (rs := [4]) (by kernel_rfl) (by simp) ?_
          refine AllReadyH.cons (o := { dst := some 29, op := Op.load 34 (Operand.tmp 28), type := 34, pos := "log.go:209", after := #[{ on := 3, ground := Ground.data }], guard := none }) rfl (fun KK hK => ?_) ?_
          · go_simp
            refine hK.out _ _ y0 (fun hHeld => ?_)
            clear hK
            try simp only [Act.put, List.setIfInBounds_toArray, List.set_cons_zero, List.set_cons_succ]
            refine wpAnyH_take (i := 11) (oi := { dst := some 36, op := Op.slice 34 (Operand.tmp 29) (some (Operand.tmp 35)) none none, type := 34, pos := "log.go:209", after := #[{ on := 4, ground := Ground.data }, { on := 10, ground := Ground.data }], guard := none }) (v := .slice (some ⟨g, n0 * 4, none⟩) (m - n0) (vc - n0)) rfl (by kernel_rfl) (by kernel_rfl) (by kernel_rfl) (fun _ _ _ h => h) (Or.inl ⟨by rfl, ?h11c⟩) hHeld ?r11c
            case h11c => intro w hSw; (try dsimp only at hSw); go_simp; all_goals (first | omega | (rw [IntKind.wrap_i64]; omega))
            try simp only [Act.put, List.setIfInBounds_toArray, List.set_cons_zero, List.set_cons_succ]
            refine wpAnyH_ready (rs := [12]) (by kernel_rfl) (by simp) ?_
            refine AllReadyH.cons (o := { dst := some 37, op := Op.call { callee := Callee.value (Operand.func 16), args := #[Operand.tmp 36], argTypes := #[34] }, type := 34, pos := "log.go:209", after := #[{ on := 11, ground := Ground.data }], guard := none }) rfl (fun KK hK => ?_) ?_
            · go_simp
              go_wp2_with (go_at_call 16; refine (HCP.out _ hwd).mono ?_; rintro r w2 ⟨v, fs, rfl, q1, q2, q3⟩; have HB2 : Hid (Below w.heap.size w w2) := hwd.trans (q3.mono hwd.size); obtain ⟨⟨z0, z1, z2, -, -, -, -, -⟩, zf, zb⟩ := HCS.out w2 HB2.out; obtain ⟨sa, sc, rfl, -, -⟩ := q1.shape; have Q1 : Hid (EntsOw w.heap.size w2 (.slice sa fs.length sc) fs) := q1.base hwd.size; have Q2 : Hid (fs.map Ent.says = _) := q2; clear q1 q2 q3)
              refine hK.out _ _ z0 (fun hHeld => ?_)
              clear hK
              try simp only [Act.put, List.setIfInBounds_toArray, List.set_cons_zero, List.set_cons_succ]
              refine wpAnyH_take (i := 13) (oi := { dst := some 38, op := Op.nilCheck (Operand.tmp 25), type := 0, pos := "log.go:209", after := #[{ on := 0, ground := Ground.data }, { on := 0, ground := Ground.phase }, { on := 1, ground := Ground.phase }, { on := 2, ground := Ground.phase }, { on := 3, ground := Ground.phase }, { on := 4, ground := Ground.phase }, { on := 5, ground := Ground.phase }, { on := 6, ground := Ground.phase }, { on := 7, ground := Ground.phase }, { on := 8, ground := Ground.phase }, { on := 9, ground := Ground.phase }, { on := 10, ground := Ground.phase }, { on := 11, ground := Ground.phase }, { on := 12, ground := Ground.phase }], guard := none }) (v := ?v13c) rfl (by kernel_rfl) (by kernel_rfl) (by kernel_rfl) (fun _ _ _ h => h) (Or.inl ⟨by rfl, ?h13c⟩) hHeld ?r13c
              case h13c => intro w hSw; (try dsimp only at hSw); go_simp; try with_reducible rfl
              try simp only [Act.put, List.setIfInBounds_toArray, List.set_cons_zero, List.set_cons_succ]
              refine wpAnyH_take (i := 14) (oi := { dst := some 39, op := Op.fieldAddr 82 (Operand.tmp 38) 2, type := 0, pos := "log.go:209", after := #[{ on := 13, ground := Ground.data }, { on := 0, ground := Ground.phase }, { on := 1, ground := Ground.phase }, { on := 2, ground := Ground.phase }, { on := 3, ground := Ground.phase }, { on := 4, ground := Ground.phase }, { on := 5, ground := Ground.phase }, { on := 6, ground := Ground.phase }, { on := 7, ground := Ground.phase }, { on := 8, ground := Ground.phase }, { on := 9, ground := Ground.phase }, { on := 10, ground := Ground.phase }, { on := 11, ground := Ground.phase }, { on := 12, ground := Ground.phase }], guard := none }) (v := ?v14c) rfl (by kernel_rfl) (by kernel_rfl) (by kernel_rfl) (fun _ _ _ h => h) (Or.inl ⟨by rfl, ?h14c⟩) hHeld ?r14c
              case h14c => intro w hSw; (try dsimp only at hSw); go_simp; try with_reducible rfl
              try simp only [Act.put, List.setIfInBounds_toArray, List.set_cons_zero, List.set_cons_succ]
              refine wpAnyH_ready (rs := [15]) (by kernel_rfl) (by simp) ?_
              refine AllReadyH.cons (o := { dst := none, op := Op.store 34 (Operand.tmp 39) (Operand.tmp 37), type := 0, pos := "log.go:209", after := #[{ on := 14, ground := Ground.data }, { on := 12, ground := Ground.data }, { on := 12, ground := Ground.chain }, { on := 0, ground := Ground.phase }, { on := 1, ground := Ground.phase }, { on := 2, ground := Ground.phase }, { on := 3, ground := Ground.phase }, { on := 4, ground := Ground.phase }, { on := 5, ground := Ground.phase }, { on := 6, ground := Ground.phase }, { on := 7, ground := Ground.phase }, { on := 8, ground := Ground.phase }, { on := 9, ground := Ground.phase }, { on := 10, ground := Ground.phase }, { on := 11, ground := Ground.phase }, { on := 12, ground := Ground.phase }], guard := none }) rfl (fun KK hK => ?_) ?_
              · go_simp
                refine hK.out _ _ ?hsc (fun hHeld => ?_)
                case hsc => exact (World.cell?_setCell_other _ ⟨b, 2, none⟩ ⟨b, 0, none⟩ _ (by simp)).trans z0
                clear hK
                refine wpAnyH_done (by kernel_rfl) ?_ _
                go_wp2
                go_ret
                exact ⟨rfl, HFN.out w2 _ fs HB2.out Q1.out Q2.out⟩
              exact AllReadyH.nil
            exact AllReadyH.nil
          exact AllReadyH.nil
end Go.Proofs.Yteekpfgjpdopmaa
