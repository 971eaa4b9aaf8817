/-
  same: a log is as the document's.
-/
import Derived.Test.YteekpfgjpdopmaaSn
import Derived.Test.YteekpfgjpdopmaaSt
namespace Go.Proofs.Yteekpfgjpdopmaa
open Go.RowKit
set_option linter.unusedVariables false

theorem en_all {P : PL} (h : P.Ok) : enE P (P.bi + 1) = 0 ∧ enL P (P.bi + 1) 10000 = P.E := by
  have h1 : enE P (P.bi + 1) = 0 := by unfold enE; rw [if_neg (by omega), if_neg (by unfold PL.li; omega)]
  refine ⟨h1, ?_⟩
  have hl := h.len
  unfold enL
  rw [if_pos h1, show (P.bi + 1 - 1 - P.bi).toNat = 0 by omega, List.drop_zero, List.take_of_length_le]
  unfold cnt PL.li
  omega

set_option maxRecDepth 100000 in
set_option maxHeartbeats 8000000 in
theorem same8_any {N : Nat} {S T : Nat → Prop} {w : World} {b d : Nat} {P : PL} (h : Bw N S T w b d P P) :
    Calls Try.prog 15 #[.pointer (some ⟨b, 0, none⟩), .pointer (some ⟨d, 0, none⟩)] w fun e w' => e = .returned (.bool true) ∧ Below w.heap.size w w' := by
  obtain ⟨va, vc, es, hdb, hde, hds, hdl, -, -, -, -⟩ := h.r.cells
  have HBw : Hid (∀ V, Below w.heap.size w V → Bw N S T V b d P P) := fun V hV => h.below hV
  have HAT : Hid (∀ V, Below w.heap.size w V → EntsAt w.heap.size V va es) := fun V hV => by
    rw [← hdl] at hde
    exact hde.at.below hV
  have HCS : Hid (∀ V, Below w.heap.size w V → V.cell? ⟨d, 0, none⟩ = some (.int .i64 P.bi) ∧ V.cell? ⟨d, 1, none⟩ = some (.int .i64 P.bt) ∧ V.cell? ⟨d, 2, none⟩ = some (.slice va P.E.length vc)) := fun V hV => by
    obtain ⟨⟨c0, c1, c2, -⟩, -⟩ := cells8 ((hV.block d (h.r.inn _ h.r.Sb)).trans hdb)
    exact ⟨c0, c1, c2⟩
  obtain ⟨en1, en2⟩ := en_all h.l.ok
  have hb0 := h.l.ok.b0
  have hlen := h.l.ok.len
  have CB := Base_any h.l
  have HLA : Hid (∀ V, Below w.heap.size w V → Calls Try.prog 24 #[.pointer (some ⟨b, 0, none⟩)] V fun e w' => e = .returned (.tuple #[.int .i64 P.li, .int .i64 P.lt]) ∧ Below V.heap.size V w') := fun V hV => Last_any (HBw.out V hV).l
  have HEN : Hid (∀ V, Below w.heap.size w V → Calls Try.prog 27 #[.pointer (some ⟨b, 0, none⟩), .int .i64 (P.bi + 1), .int .i64 10000] V fun e w' => ∃ v fs, e = .returned (.tuple #[v, .int .i64 0]) ∧ EntsOw V.heap.size w' v fs ∧ fs.map Ent.says = P.E ∧ Below V.heap.size V w') := fun V hV => by
    have := Entries_any (HBw.out V hV).l (P.bi + 1) 10000
    rw [en1, en2] at this
    exact this
  have HRL : Hid (∀ V, Below w.heap.size w V → Calls Try.prog 21 #[.pointer (some ⟨d, 0, none⟩)] V fun e w' => e = .returned (.int .i64 P.li) ∧ Below V.heap.size V w') := fun V hV => RLast_any (HBw.out V hV).r
  have HRT : Hid (∀ V, Below w.heap.size w V → Calls Try.prog 64 #[.pointer (some ⟨d, 0, none⟩)] V fun e w' => e = .returned (.int .i64 P.lt) ∧ Below V.heap.size V w') := fun V hV => RLT_any (HBw.out V hV).r
  have HLN : Hid (∀ V, Below w.heap.size w V → Calls Try.prog 65 #[.pointer (some ⟨b, 0, none⟩)] V fun e w' => e = .returned (.int .i64 (P.E.length : Int)) ∧ Below V.heap.size V w') := fun V hV => Len_any (HBw.out V hV).l
  have HMK : Hid (∀ V, Below w.heap.size w V → Calls Try.prog 25 #[.pointer (some ⟨b, 0, none⟩)] V fun e w' => e = .returned (.agg #[.int .i64 P.h, .int .i64 P.s, .int .i64 P.c, .int .i64 P.g, .int .i64 P.a]) ∧ Below V.heap.size V w') := fun V hV => Marks_any (HBw.out V hV).l
  have HRM : Hid (∀ V, Below w.heap.size w V → Calls Try.prog 66 #[.pointer (some ⟨d, 0, none⟩)] V fun e w' => e = .returned (.agg #[.int .i64 P.h, .int .i64 P.s, .int .i64 P.c, .int .i64 P.g, .int .i64 P.a]) ∧ Below V.heap.size V w') := fun V hV => marks_any (HBw.out V hV).r
  have HSE : Hid (∀ V (fa : Option Addr) (fc : Nat) (fs : List Ent), Below w.heap.size w V → EntsAt V.heap.size V fa fs → fs.map Ent.says = P.E → fs.length = P.E.length → Calls Try.prog 17 #[.slice fa P.E.length fc, .slice va P.E.length vc] V fun r w' => r = .returned (.bool true) ∧ Below V.heap.size V w') := fun V fa fc fs hV hfs hsy hfl => by
    have := sameEntries_any fa va fc vc fs es V.heap.size V hfs ((HAT.out V hV).mono hV.size) (Nat.le_refl _) (by omega)
    rw [hsy, hds, decide_eq_true rfl, hfl, hdl] at this
    exact this
  have hdw := h.r.inn _ h.r.Sb
  clear h hdb hde hds hdl en1 en2
  generalize P.li = li at *
  generalize P.lt = lt at *
  go_enter Try.func15, Try.ntmps15
  go_wp2_with fail
  refine CB.mono ?_
  rintro e w1 ⟨rfl, hB1⟩
  have HB1 : Hid (Below w.heap.size w w1) := hB1
  clear CB hB1
  go_wp2_with fail
  refine (HLA.out w1 HB1.out).mono ?_
  rintro e w2 ⟨rfl, hB2⟩
  have HB2 : Hid (Below w.heap.size w w2) := HB1.out.trans (hB2.mono HB1.out.size)
  clear hB2 HB1 HLA
  go_wp2_with fail
  refine (HEN.out w2 HB2.out).mono ?_
  rintro e w3 ⟨v, fs, rfl, hF3, hsy, hB3⟩
  have HB3 : Hid (Below w.heap.size w w3) := HB2.out.trans (hB3.mono HB2.out.size)
  obtain ⟨fa, fc, rfl, -, -⟩ := hF3.shape
  have hfl : fs.length = P.E.length := by rw [← hsy]; simp
  have HSY : Hid (fs.map Ent.says = P.E) := hsy
  have HF3 : Hid (EntsOw w.heap.size w3 (.slice fa fs.length fc) fs) := hF3.base HB2.out.size
  have CE := HSE.out w3 fa fc fs HB3.out hF3.at hsy hfl
  rw [← hfl] at CE
  obtain ⟨c0, c1, c2⟩ := HCS.out w3 HB3.out
  rw [← hfl] at c2 HCS HLN hlen
  have HCE : Hid (Calls _ _ _ _ _) := CE
  clear hF3 hB3 hsy CE HEN HSE HB2 hb0 HSY
  generalize P.E.length = pl at *
  subst hfl
  go_wp2_with fail
  refine HCE.out.mono ?_
  rintro e w4 ⟨rfl, hB4⟩
  have HB4 : Hid (Below w.heap.size w w4) := HB3.out.trans (hB4.mono HB3.out.size)
  have HO4 : Hid (Ov w.heap.size w4 (.slice fa fs.length fc) fs) := (HF3.out.below hB4).ov
  clear hB4 HCE HB3 HF3 c0 c1 c2
  obtain ⟨n, hn⟩ : ∃ n, fs.length = n := ⟨_, rfl⟩
  rw [hn] at HO4 hlen HCS HLN ⊢
  have HNQ : Hid (fs.length = n) := hn
  clear hn
  go_wp2_with fail
  go_loopw [12] (fun iv wr => ∃ (k : Nat) (gs : List Ent), iv = .int .i64 (k : Int) ∧ k ≤ n ∧ gs.length = n ∧ Ov w.heap.size wr (.slice fa n fc) gs ∧ Below w.heap.size w wr) (fun iv _ => n - (intOf iv).toNat)
  case atStart => exact ⟨0, fs, rfl, Nat.zero_le _, HNQ.out, HO4.out, HB4.out⟩
  case round =>
    obtain ⟨k, gs, rfl, hk, hgl, hO, hB⟩ := hrel
    have HO : Hid (Ov w.heap.size wr (.slice fa n fc) gs) := hO
    have HB : Hid (Below w.heap.size w wr) := hB
    have HGL : Hid (gs.length = n) := hgl
    clear hO hB HO4 HB4 HNQ hgl
    by_cases hlt : k < n
    · have hlt' : (k : Int) < (n : Int) := by omega
      have hi0 : (0 : Int) ≤ (k : Int) := by omega
      generalize wr = wo at *
      go_wp2
      go_loopw [13] (fun jv wr => ∃ j : Nat, jv = .int .i64 (j : Int) ∧ j ≤ (gs.getD k nilEnt).d.length ∧ Ov w.heap.size wr (.slice fa n fc) gs ∧ Below w.heap.size w wr) (fun jv _ => (gs.getD k nilEnt).d.length - (intOf jv).toNat)
      case atStart => exact ⟨0, rfl, Nat.zero_le _, HO.out, HB.out⟩
      case round =>
        obtain ⟨j, rfl, hj, hO2, hB2⟩ := hrel
        have HO2 : Hid (Ov w.heap.size wr (.slice fa n fc) gs) := hO2
        have HB2 : Hid (Below w.heap.size w wr) := hB2
        have hgl := HGL.out
        have hkg : k < gs.length := by omega
        have hmem : gs.getD k nilEnt ∈ gs := by rw [List.getD_eq_getElem?_getD, List.getElem?_eq_getElem hkg]; exact List.getElem_mem hkg
        obtain ⟨g, hva, hgl2, a0, a1, a2, c3, cf⟩ := Ov.at (by rw [hgl]; exact hO2) hkg
        obtain ⟨d', hd', ho⟩ := hO2.dat _ hmem
        have HPK : Hid (∀ g', (gs.getD k nilEnt).x.ownBlock = some g' → Ov w.heap.size (wr.setCell ⟨g', j, none⟩ (encB 77)) (.slice fa n fc) gs ∧ Below w.heap.size w (wr.setCell ⟨g', j, none⟩ (encB 77))) := fun g' hg' => ⟨HO2.out.poke hmem hg' j 77, by
          have hg1 := (HO2.out.lt (.inr ⟨_, hmem, hg'⟩)).1
          exact HB2.out.setCell hg1 _⟩
        subst hva
        have HZ := Ov.zero HO2.out hgl.symm hkg
        have hg1 := (HO2.out.lt (.inl rfl)).1
        have HZB := HB2.out.trans (HZ.2.below HB2.out.size (fun i hi => by have hi' : i = g := hi; rw [hi']; exact hg1))
        have HZ1 : Hid (Ov _ _ _ _) := HZ.1
        have HZ2 : Hid (Below _ _ _) := HZB
        clear HZB hg1
        have hgs : (gs.set k nilEnt).length = n := by rw [List.length_set]; exact hgl
        have HGS : Hid ((gs.set k nilEnt).length = n) := hgs
        clear hO2 hB2 HO HB hmem HZ hgs hgl hkg
        generalize gs.set k nilEnt = gz at *
        generalize gs.getD k nilEnt = e at *
        obtain ⟨et, ei, ek, ea, ec, ed⟩ := e
        unfold Ent.x at c3 ho HPK
        dsimp only at a0 a1 a2 c3 ho HPK hd' hj
        by_cases hlt2 : j < ed.length
        · have hlt2' : (j : Int) < (ed.length : Int) := by omega
          have hj0 : (0 : Int) ≤ (j : Int) := by omega
          rw [← hd'] at ho
          have hed : ed.length ≤ 9223372036854775807 := by obtain ⟨_, _, _, r1, r2⟩ := ho.shape; unfold maxLen at r2; omega
          obtain ⟨g', u, hea, c4, c5, hgl3⟩ := ho.can j (by omega)
          subst hea
          have HPK2 := HPK.out g' rfl
          have HP1 : Hid (Ov w.heap.size (wr.setCell ⟨g', j, none⟩ (.int .u8 77)) (.slice (some ⟨g, 0, none⟩) n fc) gs) := HPK2.1
          have HP2 : Hid (Below w.heap.size w (wr.setCell ⟨g', j, none⟩ (.int .u8 77))) := HPK2.2
          clear ho HPK HPK2 HO2 HB2 hd' HZ1 HZ2 a0 a1 a2
          go_wp2
          exact ⟨⟨j + 1, by go_num, by omega, HP1.out, HP2.out⟩, by simp [intOf]; omega⟩
        · have hlt2' : ¬ (j : Int) < (ed.length : Int) := by omega
          have f0 := cf (k * 4)
          have f1 := cf (k * 4 + 1)
          have f2 := cf (k * 4 + 2)
          have f3 := cf (k * 4 + 3)
          clear ho HPK hd' cf
          go_wp2
          exact ⟨⟨k + 1, gz, by go_num, by omega, HGS.out, HZ1.out, HZ2.out⟩, by simp [intOf]; omega⟩
    · have hlt' : ¬ (k : Int) < (n : Int) := by omega
      clear HO
      generalize wr = w5 at *
      obtain ⟨c0, c1, c2⟩ := HCS.out w5 HB.out
      go_wp2_with fail
      refine wp_region_held_drew (S := fun w' => w'.cell? ⟨d, 0, none⟩ = some (.int .i64 P.bi) ∧ w'.cell? ⟨d, 1, none⟩ = some (.int .i64 P.bt) ∧ w'.cell? ⟨d, 2, none⟩ = some (.slice va n vc)) (by kernel_rfl) ⟨c0, c1, c2⟩ (fun hHeld => ?_)
      have HV0 : Hid (Below w.heap.size w w5.drew) := HB.out.drew
      refine wpAnyH_take (i := 0) (oi := { dst := some 64, op := Op.move (Operand.tmp 5), type := 3, pos := "law.go:53", after := #[], guard := none }) (v := ?v0) rfl (by kernel_rfl) (by kernel_rfl) (by kernel_rfl) (fun _ _ _ h => h) (Or.inl ⟨by rfl, ?h0⟩) hHeld ?r0
      case h0 => intro w hSw; (try dsimp only at hSw); go_simp; try with_reducible rfl
      try simp only [Act.put, List.setIfInBounds_toArray, List.set_cons_zero, List.set_cons_succ]
      refine wpAnyH_take (i := 1) (oi := { dst := some 65, op := Op.move (Operand.tmp 1), type := 29, pos := "law.go:53", after := #[], guard := none }) (v := ?v1) rfl (by kernel_rfl) (by kernel_rfl) (by kernel_rfl) (fun _ _ _ h => h) (Or.inl ⟨by rfl, ?h1⟩) hHeld ?r1
      case h1 => intro w hSw; (try dsimp only at hSw); go_simp; try with_reducible rfl
      try simp only [Act.put, List.setIfInBounds_toArray, List.set_cons_zero, List.set_cons_succ]
      refine wpAnyH_take (i := 2) (oi := { dst := some 66, op := Op.nilCheck (Operand.tmp 65), type := 0, pos := "law.go:53", after := #[{ on := 1, ground := Ground.data }], guard := none }) (v := ?v2) rfl (by kernel_rfl) (by kernel_rfl) (by kernel_rfl) (fun _ _ _ h => h) (Or.inl ⟨by rfl, ?h2⟩) hHeld ?r2
      case h2 => intro w hSw; (try dsimp only at hSw); go_simp; try with_reducible rfl
      try simp only [Act.put, List.setIfInBounds_toArray, List.set_cons_zero, List.set_cons_succ]
      refine wpAnyH_take (i := 3) (oi := { dst := some 67, op := Op.fieldAddr 82 (Operand.tmp 66) 0, type := 0, pos := "law.go:53", after := #[{ on := 2, ground := Ground.data }], guard := none }) (v := ?v3) rfl (by kernel_rfl) (by kernel_rfl) (by kernel_rfl) (fun _ _ _ h => h) (Or.inl ⟨by rfl, ?h3⟩) hHeld ?r3
      case h3 => intro w hSw; (try dsimp only at hSw); go_simp; try with_reducible rfl
      try simp only [Act.put, List.setIfInBounds_toArray, List.set_cons_zero, List.set_cons_succ]
      refine wpAnyH_take (i := 4) (oi := { dst := some 68, op := Op.load 3 (Operand.tmp 67), type := 3, pos := "law.go:53", after := #[{ on := 3, ground := Ground.data }], guard := none }) (v := ?v4) rfl (by kernel_rfl) (by kernel_rfl) (by kernel_rfl) (fun _ _ _ h => h) (Or.inl ⟨by rfl, ?h4⟩) hHeld ?r4
      case h4 => intro w hSw; (try dsimp only at hSw); go_simp; try with_reducible rfl
      try simp only [Act.put, List.setIfInBounds_toArray, List.set_cons_zero, List.set_cons_succ]
      refine wpAnyH_take (i := 5) (oi := { dst := some 69, op := Op.binOp BinOp.eql 3 (Operand.tmp 64) (Operand.tmp 68) 3, type := 4, pos := "law.go:53", after := #[{ on := 0, ground := Ground.data }, { on := 4, ground := Ground.data }], guard := none }) (v := ?v5) rfl (by kernel_rfl) (by kernel_rfl) (by kernel_rfl) (fun _ _ _ h => h) (Or.inl ⟨by rfl, ?h5⟩) hHeld ?r5
      case h5 => intro w hSw; (try dsimp only at hSw); go_simp; try with_reducible rfl
      try simp only [Act.put, List.setIfInBounds_toArray, List.set_cons_zero, List.set_cons_succ]
      refine wpAnyH_take (i := 6) (oi := { dst := some 70, op := Op.move (Operand.tmp 69), type := 4, pos := "law.go:53", after := #[{ on := 5, ground := Ground.data }], guard := none }) (v := ?v6) rfl (by kernel_rfl) (by kernel_rfl) (by kernel_rfl) (fun _ _ _ h => h) (Or.inl ⟨by rfl, ?h6⟩) hHeld ?r6
      case h6 => intro w hSw; (try dsimp only at hSw); go_simp; try with_reducible rfl
      try simp only [Act.put, List.setIfInBounds_toArray, List.set_cons_zero, List.set_cons_succ]
      refine wpAnyH_take (i := 7) (oi := { dst := some 71, op := Op.move (Operand.tmp 6), type := 3, pos := "law.go:53", after := #[{ on := 6, ground := Ground.guard }], guard := some (6, true) }) (v := ?v7) rfl (by kernel_rfl) (by kernel_rfl) (by kernel_rfl) (fun _ _ _ h => h) (Or.inl ⟨by rfl, ?h7⟩) hHeld ?r7
      case h7 => intro w hSw; (try dsimp only at hSw); go_simp; try with_reducible rfl
      try simp only [Act.put, List.setIfInBounds_toArray, List.set_cons_zero, List.set_cons_succ]
      refine wpAnyH_take (i := 8) (oi := { dst := some 72, op := Op.move (Operand.tmp 1), type := 29, pos := "law.go:53", after := #[{ on := 6, ground := Ground.guard }], guard := some (6, true) }) (v := ?v8) rfl (by kernel_rfl) (by kernel_rfl) (by kernel_rfl) (fun _ _ _ h => h) (Or.inl ⟨by rfl, ?h8⟩) hHeld ?r8
      case h8 => intro w hSw; (try dsimp only at hSw); go_simp; try with_reducible rfl
      try simp only [Act.put, List.setIfInBounds_toArray, List.set_cons_zero, List.set_cons_succ]
      refine wpAnyH_take (i := 9) (oi := { dst := some 73, op := Op.nilCheck (Operand.tmp 72), type := 0, pos := "law.go:53", after := #[{ on := 8, ground := Ground.data }, { on := 6, ground := Ground.guard }], guard := some (6, true) }) (v := ?v9) rfl (by kernel_rfl) (by kernel_rfl) (by kernel_rfl) (fun _ _ _ h => h) (Or.inl ⟨by rfl, ?h9⟩) hHeld ?r9
      case h9 => intro w hSw; (try dsimp only at hSw); go_simp; try with_reducible rfl
      try simp only [Act.put, List.setIfInBounds_toArray, List.set_cons_zero, List.set_cons_succ]
      refine wpAnyH_take (i := 10) (oi := { dst := some 74, op := Op.fieldAddr 82 (Operand.tmp 73) 1, type := 0, pos := "law.go:53", after := #[{ on := 9, ground := Ground.data }, { on := 6, ground := Ground.guard }], guard := some (6, true) }) (v := ?v10) rfl (by kernel_rfl) (by kernel_rfl) (by kernel_rfl) (fun _ _ _ h => h) (Or.inl ⟨by rfl, ?h10⟩) hHeld ?r10
      case h10 => intro w hSw; (try dsimp only at hSw); go_simp; try with_reducible rfl
      try simp only [Act.put, List.setIfInBounds_toArray, List.set_cons_zero, List.set_cons_succ]
      refine wpAnyH_take (i := 11) (oi := { dst := some 75, op := Op.load 3 (Operand.tmp 74), type := 3, pos := "law.go:53", after := #[{ on := 10, ground := Ground.data }, { on := 6, ground := Ground.guard }], guard := some (6, true) }) (v := ?v11) rfl (by kernel_rfl) (by kernel_rfl) (by kernel_rfl) (fun _ _ _ h => h) (Or.inl ⟨by rfl, ?h11⟩) hHeld ?r11
      case h11 => intro w hSw; (try dsimp only at hSw); go_simp; try with_reducible rfl
      try simp only [Act.put, List.setIfInBounds_toArray, List.set_cons_zero, List.set_cons_succ]
      refine wpAnyH_take (i := 12) (oi := { dst := some 76, op := Op.binOp BinOp.eql 3 (Operand.tmp 71) (Operand.tmp 75) 3, type := 4, pos := "law.go:53", after := #[{ on := 7, ground := Ground.data }, { on := 11, ground := Ground.data }, { on := 6, ground := Ground.guard }], guard := some (6, true) }) (v := ?v12) rfl (by kernel_rfl) (by kernel_rfl) (by kernel_rfl) (fun _ _ _ h => h) (Or.inl ⟨by rfl, ?h12⟩) hHeld ?r12
      case h12 => intro w hSw; (try dsimp only at hSw); go_simp; try with_reducible rfl
      try simp only [Act.put, List.setIfInBounds_toArray, List.set_cons_zero, List.set_cons_succ]
      refine wpAnyH_take (i := 13) (oi := { dst := some 77, op := Op.pick (Operand.tmp 70) (Operand.tmp 76) (Operand.const (Value.bool false)), type := 4, pos := "law.go:53", after := #[{ on := 6, ground := Ground.data }, { on := 12, ground := Ground.data }], guard := none }) (v := ?v13) rfl (by kernel_rfl) (by kernel_rfl) (by kernel_rfl) (fun _ _ _ h => h) (Or.inl ⟨by rfl, ?h13⟩) hHeld ?r13
      case h13 => intro w hSw; (try dsimp only at hSw); go_simp; try with_reducible rfl
      try simp only [Act.put, List.setIfInBounds_toArray, List.set_cons_zero, List.set_cons_succ]
      refine wpAnyH_take (i := 14) (oi := { dst := some 78, op := Op.move (Operand.tmp 77), type := 4, pos := "law.go:53", after := #[{ on := 13, ground := Ground.data }, { on := 6, ground := Ground.chain }], guard := none }) (v := ?v14) rfl (by kernel_rfl) (by kernel_rfl) (by kernel_rfl) (fun _ _ _ h => h) (Or.inl ⟨by rfl, ?h14⟩) hHeld ?r14
      case h14 => intro w hSw; (try dsimp only at hSw); go_simp; try with_reducible rfl
      try simp only [Act.put, List.setIfInBounds_toArray, List.set_cons_zero, List.set_cons_succ]
      refine wpAnyH_take (i := 15) (oi := { dst := some 79, op := Op.move (Operand.tmp 7), type := 3, pos := "law.go:53", after := #[{ on := 14, ground := Ground.guard }], guard := some (14, true) }) (v := ?v15) rfl (by kernel_rfl) (by kernel_rfl) (by kernel_rfl) (fun _ _ _ h => h) (Or.inl ⟨by rfl, ?h15⟩) hHeld ?r15
      case h15 => intro w hSw; (try dsimp only at hSw); go_simp; try with_reducible rfl
      try simp only [Act.put, List.setIfInBounds_toArray, List.set_cons_zero, List.set_cons_succ]
      refine wpAnyH_take (i := 16) (oi := { dst := some 80, op := Op.move (Operand.tmp 1), type := 29, pos := "law.go:53", after := #[{ on := 14, ground := Ground.guard }], guard := some (14, true) }) (v := ?v16) rfl (by kernel_rfl) (by kernel_rfl) (by kernel_rfl) (fun _ _ _ h => h) (Or.inl ⟨by rfl, ?h16⟩) hHeld ?r16
      case h16 => intro w hSw; (try dsimp only at hSw); go_simp; try with_reducible rfl
      try simp only [Act.put, List.setIfInBounds_toArray, List.set_cons_zero, List.set_cons_succ]
      refine wpAnyH_ready (rs := [17]) (by kernel_rfl) (by simp) ?_
      refine AllReadyH.cons (o := { dst := some 81, op := Op.call { callee := Callee.value (Operand.func 21), args := #[Operand.tmp 80], argTypes := #[29] }, type := 3, pos := "law.go:53", after := #[{ on := 16, ground := Ground.data }, { on := 14, ground := Ground.chain }, { on := 14, ground := Ground.guard }], guard := some (14, true) }) rfl (fun KK hK => ?_) AllReadyH.nil
      go_simp
      go_wp2_with (go_at_call 21; refine (HRL.out _ HV0.out).mono ?_; rintro r x1 ⟨rfl, hB1⟩; have HV1 : Hid (Below w.heap.size w x1) := HV0.out.trans (hB1.mono HV0.out.size); clear hB1)
      obtain ⟨q0, q1, q2⟩ := HCS.out x1 HV1.out
      refine hK.out _ _ ⟨q0, q1, q2⟩ (fun hHeld => ?_)
      clear hK
      try simp only [Act.put, List.setIfInBounds_toArray, List.set_cons_zero, List.set_cons_succ]
      refine wpAnyH_take (i := 18) (oi := { dst := some 82, op := Op.binOp BinOp.eql 3 (Operand.tmp 79) (Operand.tmp 81) 3, type := 4, pos := "law.go:53", after := #[{ on := 15, ground := Ground.data }, { on := 17, ground := Ground.data }, { on := 14, ground := Ground.guard }], guard := some (14, true) }) (v := ?v18) rfl (by kernel_rfl) (by kernel_rfl) (by kernel_rfl) (fun _ _ _ h => h) (Or.inl ⟨by rfl, ?h18⟩) hHeld ?r18
      case h18 => intro w hSw; (try dsimp only at hSw); go_simp; try with_reducible rfl
      try simp only [Act.put, List.setIfInBounds_toArray, List.set_cons_zero, List.set_cons_succ]
      refine wpAnyH_take (i := 19) (oi := { dst := some 83, op := Op.pick (Operand.tmp 78) (Operand.tmp 82) (Operand.const (Value.bool false)), type := 4, pos := "law.go:53", after := #[{ on := 14, ground := Ground.data }, { on := 18, ground := Ground.data }], guard := none }) (v := ?v19) rfl (by kernel_rfl) (by kernel_rfl) (by kernel_rfl) (fun _ _ _ h => h) (Or.inl ⟨by rfl, ?h19⟩) hHeld ?r19
      case h19 => intro w hSw; (try dsimp only at hSw); go_simp; try with_reducible rfl
      try simp only [Act.put, List.setIfInBounds_toArray, List.set_cons_zero, List.set_cons_succ]
      refine wpAnyH_take (i := 20) (oi := { dst := some 84, op := Op.move (Operand.tmp 83), type := 4, pos := "law.go:53", after := #[{ on := 19, ground := Ground.data }, { on := 17, ground := Ground.chain }], guard := none }) (v := ?v20) rfl (by kernel_rfl) (by kernel_rfl) (by kernel_rfl) (fun _ _ _ h => h) (Or.inl ⟨by rfl, ?h20⟩) hHeld ?r20
      case h20 => intro w hSw; (try dsimp only at hSw); go_simp; try with_reducible rfl
      try simp only [Act.put, List.setIfInBounds_toArray, List.set_cons_zero, List.set_cons_succ]
      refine wpAnyH_take (i := 21) (oi := { dst := some 85, op := Op.move (Operand.tmp 8), type := 3, pos := "law.go:53", after := #[{ on := 20, ground := Ground.guard }], guard := some (20, true) }) (v := ?v21) rfl (by kernel_rfl) (by kernel_rfl) (by kernel_rfl) (fun _ _ _ h => h) (Or.inl ⟨by rfl, ?h21⟩) hHeld ?r21
      case h21 => intro w hSw; (try dsimp only at hSw); go_simp; try with_reducible rfl
      try simp only [Act.put, List.setIfInBounds_toArray, List.set_cons_zero, List.set_cons_succ]
      refine wpAnyH_take (i := 22) (oi := { dst := some 86, op := Op.move (Operand.tmp 1), type := 29, pos := "law.go:53", after := #[{ on := 20, ground := Ground.guard }], guard := some (20, true) }) (v := ?v22) rfl (by kernel_rfl) (by kernel_rfl) (by kernel_rfl) (fun _ _ _ h => h) (Or.inl ⟨by rfl, ?h22⟩) hHeld ?r22
      case h22 => intro w hSw; (try dsimp only at hSw); go_simp; try with_reducible rfl
      try simp only [Act.put, List.setIfInBounds_toArray, List.set_cons_zero, List.set_cons_succ]
      refine wpAnyH_ready (rs := [23]) (by kernel_rfl) (by simp) ?_
      refine AllReadyH.cons (o := { dst := some 87, op := Op.call { callee := Callee.value (Operand.func 64), args := #[Operand.tmp 86], argTypes := #[29] }, type := 3, pos := "law.go:53", after := #[{ on := 22, ground := Ground.data }, { on := 20, ground := Ground.chain }, { on := 20, ground := Ground.guard }], guard := some (20, true) }) rfl (fun KK hK => ?_) AllReadyH.nil
      go_simp
      go_wp2_with (go_at_call 64; refine (HRT.out _ HV1.out).mono ?_; rintro r x2 ⟨rfl, hB2⟩; have HV2 : Hid (Below w.heap.size w x2) := HV1.out.trans (hB2.mono HV1.out.size); clear hB2)
      obtain ⟨q0, q1, q2⟩ := HCS.out x2 HV2.out
      refine hK.out _ _ ⟨q0, q1, q2⟩ (fun hHeld => ?_)
      clear hK
      try simp only [Act.put, List.setIfInBounds_toArray, List.set_cons_zero, List.set_cons_succ]
      refine wpAnyH_take (i := 24) (oi := { dst := some 88, op := Op.binOp BinOp.eql 3 (Operand.tmp 85) (Operand.tmp 87) 3, type := 4, pos := "law.go:53", after := #[{ on := 21, ground := Ground.data }, { on := 23, ground := Ground.data }, { on := 20, ground := Ground.guard }], guard := some (20, true) }) (v := ?v24) rfl (by kernel_rfl) (by kernel_rfl) (by kernel_rfl) (fun _ _ _ h => h) (Or.inl ⟨by rfl, ?h24⟩) hHeld ?r24
      case h24 => intro w hSw; (try dsimp only at hSw); go_simp; try with_reducible rfl
      try simp only [Act.put, List.setIfInBounds_toArray, List.set_cons_zero, List.set_cons_succ]
      refine wpAnyH_take (i := 25) (oi := { dst := some 89, op := Op.pick (Operand.tmp 84) (Operand.tmp 88) (Operand.const (Value.bool false)), type := 4, pos := "law.go:53", after := #[{ on := 20, ground := Ground.data }, { on := 24, ground := Ground.data }], guard := none }) (v := ?v25) rfl (by kernel_rfl) (by kernel_rfl) (by kernel_rfl) (fun _ _ _ h => h) (Or.inl ⟨by rfl, ?h25⟩) hHeld ?r25
      case h25 => intro w hSw; (try dsimp only at hSw); go_simp; try with_reducible rfl
      try simp only [Act.put, List.setIfInBounds_toArray, List.set_cons_zero, List.set_cons_succ]
      refine wpAnyH_take (i := 26) (oi := { dst := some 90, op := Op.move (Operand.tmp 89), type := 4, pos := "law.go:53", after := #[{ on := 25, ground := Ground.data }, { on := 23, ground := Ground.chain }], guard := none }) (v := ?v26) rfl (by kernel_rfl) (by kernel_rfl) (by kernel_rfl) (fun _ _ _ h => h) (Or.inl ⟨by rfl, ?h26⟩) hHeld ?r26
      case h26 => intro w hSw; (try dsimp only at hSw); go_simp; try with_reducible rfl
      try simp only [Act.put, List.setIfInBounds_toArray, List.set_cons_zero, List.set_cons_succ]
      refine wpAnyH_take (i := 27) (oi := { dst := some 91, op := Op.move (Operand.tmp 0), type := 25, pos := "law.go:53", after := #[{ on := 26, ground := Ground.guard }], guard := some (26, true) }) (v := ?v27) rfl (by kernel_rfl) (by kernel_rfl) (by kernel_rfl) (fun _ _ _ h => h) (Or.inl ⟨by rfl, ?h27⟩) hHeld ?r27
      case h27 => intro w hSw; (try dsimp only at hSw); go_simp; try with_reducible rfl
      try simp only [Act.put, List.setIfInBounds_toArray, List.set_cons_zero, List.set_cons_succ]
      refine wpAnyH_take (i := 29) (oi := { dst := some 93, op := Op.move (Operand.tmp 1), type := 29, pos := "law.go:53", after := #[{ on := 26, ground := Ground.guard }], guard := some (26, true) }) (v := ?v29) rfl (by kernel_rfl) (by kernel_rfl) (by kernel_rfl) (fun _ _ _ h => h) (Or.inl ⟨by rfl, ?h29⟩) hHeld ?r29
      case h29 => intro w hSw; (try dsimp only at hSw); go_simp; try with_reducible rfl
      try simp only [Act.put, List.setIfInBounds_toArray, List.set_cons_zero, List.set_cons_succ]
      refine wpAnyH_take (i := 30) (oi := { dst := some 94, op := Op.nilCheck (Operand.tmp 93), type := 0, pos := "law.go:53", after := #[{ on := 29, ground := Ground.data }, { on := 26, ground := Ground.guard }], guard := some (26, true) }) (v := ?v30) rfl (by kernel_rfl) (by kernel_rfl) (by kernel_rfl) (fun _ _ _ h => h) (Or.inl ⟨by rfl, ?h30⟩) hHeld ?r30
      case h30 => intro w hSw; (try dsimp only at hSw); go_simp; try with_reducible rfl
      try simp only [Act.put, List.setIfInBounds_toArray, List.set_cons_zero, List.set_cons_succ]
      refine wpAnyH_take (i := 31) (oi := { dst := some 95, op := Op.fieldAddr 82 (Operand.tmp 94) 2, type := 0, pos := "law.go:53", after := #[{ on := 30, ground := Ground.data }, { on := 26, ground := Ground.guard }], guard := some (26, true) }) (v := ?v31) rfl (by kernel_rfl) (by kernel_rfl) (by kernel_rfl) (fun _ _ _ h => h) (Or.inl ⟨by rfl, ?h31⟩) hHeld ?r31
      case h31 => intro w hSw; (try dsimp only at hSw); go_simp; try with_reducible rfl
      try simp only [Act.put, List.setIfInBounds_toArray, List.set_cons_zero, List.set_cons_succ]
      refine wpAnyH_take (i := 32) (oi := { dst := some 96, op := Op.load 34 (Operand.tmp 95), type := 34, pos := "law.go:53", after := #[{ on := 31, ground := Ground.data }, { on := 26, ground := Ground.guard }], guard := some (26, true) }) (v := ?v32) rfl (by kernel_rfl) (by kernel_rfl) (by kernel_rfl) (fun _ _ _ h => h) (Or.inl ⟨by rfl, ?h32⟩) hHeld ?r32
      case h32 => intro w hSw; (try dsimp only at hSw); go_simp; try with_reducible rfl
      try simp only [Act.put, List.setIfInBounds_toArray, List.set_cons_zero, List.set_cons_succ]
      refine wpAnyH_take (i := 33) (oi := { dst := some 97, op := Op.call { callee := Callee.builtin Builtin.len, args := #[Operand.tmp 96], argTypes := #[34] }, type := 3, pos := "law.go:53", after := #[{ on := 32, ground := Ground.data }, { on := 26, ground := Ground.guard }], guard := some (26, true) }) (v := ?v33) rfl (by kernel_rfl) (by kernel_rfl) (by kernel_rfl) (fun _ _ _ h => h) (Or.inl ⟨by rfl, ?h33⟩) hHeld ?r33
      case h33 => intro w hSw; (try dsimp only at hSw); go_simp; try with_reducible rfl
      try simp only [Act.put, List.setIfInBounds_toArray, List.set_cons_zero, List.set_cons_succ]
      refine wpAnyH_ready (rs := [28]) (by kernel_rfl) (by simp) ?_
      refine AllReadyH.cons (o := { dst := some 92, op := Op.call { callee := Callee.value (Operand.func 65), args := #[Operand.tmp 91], argTypes := #[25] }, type := 3, pos := "law.go:53", after := #[{ on := 27, ground := Ground.data }, { on := 26, ground := Ground.chain }, { on := 26, ground := Ground.guard }], guard := some (26, true) }) rfl (fun KK hK => ?_) AllReadyH.nil
      go_simp
      go_wp2_with (go_at_call 65; refine (HLN.out _ HV2.out).mono ?_; rintro r x3 ⟨rfl, hB3⟩; have HV3 : Hid (Below w.heap.size w x3) := HV2.out.trans (hB3.mono HV2.out.size); clear hB3)
      obtain ⟨q0, q1, q2⟩ := HCS.out x3 HV3.out
      refine hK.out _ _ ⟨q0, q1, q2⟩ (fun hHeld => ?_)
      clear hK
      try simp only [Act.put, List.setIfInBounds_toArray, List.set_cons_zero, List.set_cons_succ]
      refine wpAnyH_take (i := 34) (oi := { dst := some 98, op := Op.binOp BinOp.eql 3 (Operand.tmp 92) (Operand.tmp 97) 3, type := 4, pos := "law.go:53", after := #[{ on := 28, ground := Ground.data }, { on := 33, ground := Ground.data }, { on := 26, ground := Ground.guard }], guard := some (26, true) }) (v := ?v34) rfl (by kernel_rfl) (by kernel_rfl) (by kernel_rfl) (fun _ _ _ h => h) (Or.inl ⟨by rfl, ?h34⟩) hHeld ?r34
      case h34 => intro w hSw; (try dsimp only at hSw); go_simp; try with_reducible rfl
      try simp only [Act.put, List.setIfInBounds_toArray, List.set_cons_zero, List.set_cons_succ]
      refine wpAnyH_take (i := 35) (oi := { dst := some 99, op := Op.pick (Operand.tmp 90) (Operand.tmp 98) (Operand.const (Value.bool false)), type := 4, pos := "law.go:53", after := #[{ on := 26, ground := Ground.data }, { on := 34, ground := Ground.data }], guard := none }) (v := ?v35) rfl (by kernel_rfl) (by kernel_rfl) (by kernel_rfl) (fun _ _ _ h => h) (Or.inl ⟨by rfl, ?h35⟩) hHeld ?r35
      case h35 => intro w hSw; (try dsimp only at hSw); go_simp; try with_reducible rfl
      try simp only [Act.put, List.setIfInBounds_toArray, List.set_cons_zero, List.set_cons_succ]
      refine wpAnyH_take (i := 36) (oi := { dst := some 100, op := Op.move (Operand.tmp 99), type := 4, pos := "law.go:53", after := #[{ on := 35, ground := Ground.data }, { on := 28, ground := Ground.chain }], guard := none }) (v := ?v36) rfl (by kernel_rfl) (by kernel_rfl) (by kernel_rfl) (fun _ _ _ h => h) (Or.inl ⟨by rfl, ?h36⟩) hHeld ?r36
      case h36 => intro w hSw; (try dsimp only at hSw); go_simp; try with_reducible rfl
      try simp only [Act.put, List.setIfInBounds_toArray, List.set_cons_zero, List.set_cons_succ]
      refine wpAnyH_take (i := 37) (oi := { dst := some 101, op := Op.move (Operand.tmp 0), type := 25, pos := "law.go:53", after := #[{ on := 36, ground := Ground.guard }], guard := some (36, true) }) (v := ?v37) rfl (by kernel_rfl) (by kernel_rfl) (by kernel_rfl) (fun _ _ _ h => h) (Or.inl ⟨by rfl, ?h37⟩) hHeld ?r37
      case h37 => intro w hSw; (try dsimp only at hSw); go_simp; try with_reducible rfl
      try simp only [Act.put, List.setIfInBounds_toArray, List.set_cons_zero, List.set_cons_succ]
      refine wpAnyH_take (i := 39) (oi := { dst := some 103, op := Op.move (Operand.tmp 1), type := 29, pos := "law.go:53", after := #[{ on := 36, ground := Ground.guard }], guard := some (36, true) }) (v := ?v39) rfl (by kernel_rfl) (by kernel_rfl) (by kernel_rfl) (fun _ _ _ h => h) (Or.inl ⟨by rfl, ?h39⟩) hHeld ?r39
      case h39 => intro w hSw; (try dsimp only at hSw); go_simp; try with_reducible rfl
      try simp only [Act.put, List.setIfInBounds_toArray, List.set_cons_zero, List.set_cons_succ]
      refine wpAnyH_ready (rs := [38]) (by kernel_rfl) (by simp) ?_
      refine AllReadyH.cons (o := { dst := some 102, op := Op.call { callee := Callee.value (Operand.func 25), args := #[Operand.tmp 101], argTypes := #[25] }, type := 55, pos := "law.go:53", after := #[{ on := 37, ground := Ground.data }, { on := 36, ground := Ground.chain }, { on := 36, ground := Ground.guard }], guard := some (36, true) }) rfl (fun KK hK => ?_) AllReadyH.nil
      go_simp
      go_wp2_with (go_at_call 25; refine (HMK.out _ HV3.out).mono ?_; rintro r x4 ⟨rfl, hB4⟩; have HV4 : Hid (Below w.heap.size w x4) := HV3.out.trans (hB4.mono HV3.out.size); clear hB4)
      obtain ⟨q0, q1, q2⟩ := HCS.out x4 HV4.out
      refine hK.out _ _ ⟨q0, q1, q2⟩ (fun hHeld => ?_)
      clear hK
      try simp only [Act.put, List.setIfInBounds_toArray, List.set_cons_zero, List.set_cons_succ]
      refine wpAnyH_ready (rs := [40]) (by kernel_rfl) (by simp) ?_
      refine AllReadyH.cons (o := { dst := some 104, op := Op.call { callee := Callee.value (Operand.func 66), args := #[Operand.tmp 103], argTypes := #[29] }, type := 55, pos := "law.go:53", after := #[{ on := 39, ground := Ground.data }, { on := 38, ground := Ground.chain }, { on := 36, ground := Ground.guard }], guard := some (36, true) }) rfl (fun KK hK => ?_) AllReadyH.nil
      go_simp
      go_wp2_with (go_at_call 66; refine (HRM.out _ HV4.out).mono ?_; rintro r x5 ⟨rfl, hB5⟩; have HV5 : Hid (Below w.heap.size w x5) := HV4.out.trans (hB5.mono HV4.out.size); clear hB5)
      obtain ⟨q0, q1, q2⟩ := HCS.out x5 HV5.out
      refine hK.out _ _ ⟨q0, q1, q2⟩ (fun hHeld => ?_)
      clear hK
      try simp only [Act.put, List.setIfInBounds_toArray, List.set_cons_zero, List.set_cons_succ]
      refine wpAnyH_take (i := 41) (oi := { dst := some 105, op := Op.binOp BinOp.eql 55 (Operand.tmp 102) (Operand.tmp 104) 55, type := 4, pos := "law.go:53", after := #[{ on := 38, ground := Ground.data }, { on := 40, ground := Ground.data }, { on := 36, ground := Ground.guard }], guard := some (36, true) }) (v := ?v41) rfl (by kernel_rfl) (by kernel_rfl) (by kernel_rfl) (fun _ _ _ h => h) (Or.inl ⟨by rfl, ?h41⟩) hHeld ?r41
      case h41 => intro w hSw; (try dsimp only at hSw); go_simp; try with_reducible rfl
      try simp only [Act.put, List.setIfInBounds_toArray, List.set_cons_zero, List.set_cons_succ]
      refine wpAnyH_take (i := 42) (oi := { dst := some 106, op := Op.pick (Operand.tmp 100) (Operand.tmp 105) (Operand.const (Value.bool false)), type := 4, pos := "law.go:53", after := #[{ on := 36, ground := Ground.data }, { on := 41, ground := Ground.data }], guard := none }) (v := ?v42) rfl (by kernel_rfl) (by kernel_rfl) (by kernel_rfl) (fun _ _ _ h => h) (Or.inl ⟨by rfl, ?h42⟩) hHeld ?r42
      case h42 => intro w hSw; (try dsimp only at hSw); go_simp; try with_reducible rfl
      try simp only [Act.put, List.setIfInBounds_toArray, List.set_cons_zero, List.set_cons_succ]
      refine wpAnyH_take (i := 43) (oi := { dst := some 107, op := Op.move (Operand.tmp 106), type := 4, pos := "law.go:53", after := #[{ on := 42, ground := Ground.data }, { on := 40, ground := Ground.chain }], guard := none }) (v := ?v43) rfl (by kernel_rfl) (by kernel_rfl) (by kernel_rfl) (fun _ _ _ h => h) (Or.inl ⟨by rfl, ?h43⟩) hHeld ?r43
      case h43 => intro w hSw; (try dsimp only at hSw); go_simp; try with_reducible rfl
      try simp only [Act.put, List.setIfInBounds_toArray, List.set_cons_zero, List.set_cons_succ]
      refine wpAnyH_take (i := 44) (oi := { dst := some 108, op := Op.move (Operand.tmp 11), type := 4, pos := "law.go:53", after := #[{ on := 43, ground := Ground.guard }], guard := some (43, true) }) (v := ?v44) rfl (by kernel_rfl) (by kernel_rfl) (by kernel_rfl) (fun _ _ _ h => h) (Or.inl ⟨by rfl, ?h44⟩) hHeld ?r44
      case h44 => intro w hSw; (try dsimp only at hSw); go_simp; try with_reducible rfl
      try simp only [Act.put, List.setIfInBounds_toArray, List.set_cons_zero, List.set_cons_succ]
      refine wpAnyH_take (i := 45) (oi := { dst := some 109, op := Op.pick (Operand.tmp 107) (Operand.tmp 108) (Operand.const (Value.bool false)), type := 4, pos := "law.go:53", after := #[{ on := 43, ground := Ground.data }, { on := 44, ground := Ground.data }], guard := none }) (v := ?v45) rfl (by kernel_rfl) (by kernel_rfl) (by kernel_rfl) (fun _ _ _ h => h) (Or.inl ⟨by rfl, ?h45⟩) hHeld ?r45
      case h45 => intro w hSw; (try dsimp only at hSw); go_simp; try with_reducible rfl
      try simp only [Act.put, List.setIfInBounds_toArray, List.set_cons_zero, List.set_cons_succ]
      refine wpAnyH_take (i := 46) (oi := { dst := some 110, op := Op.move (Operand.tmp 109), type := 4, pos := "law.go:53", after := #[{ on := 45, ground := Ground.data }, { on := 43, ground := Ground.chain }], guard := none }) (v := ?v46) rfl (by kernel_rfl) (by kernel_rfl) (by kernel_rfl) (fun _ _ _ h => h) (Or.inl ⟨by rfl, ?h46⟩) hHeld ?r46
      case h46 => intro w hSw; (try dsimp only at hSw); go_simp; try with_reducible rfl
      try simp only [Act.put, List.setIfInBounds_toArray, List.set_cons_zero, List.set_cons_succ]
      refine wpAnyH_take (i := 47) (oi := { dst := some 111, op := Op.move (Operand.tmp 10), type := 26, pos := "law.go:53", after := #[{ on := 46, ground := Ground.guard }], guard := some (46, true) }) (v := ?v47) rfl (by kernel_rfl) (by kernel_rfl) (by kernel_rfl) (fun _ _ _ h => h) (Or.inl ⟨by rfl, ?h47⟩) hHeld ?r47
      case h47 => intro w hSw; (try dsimp only at hSw); go_simp; try with_reducible rfl
      try simp only [Act.put, List.setIfInBounds_toArray, List.set_cons_zero, List.set_cons_succ]
      refine wpAnyH_ready (rs := [48]) (by kernel_rfl) (by simp) ?_
      refine AllReadyH.cons (o := { dst := some 112, op := Op.call { callee := Callee.value (Operand.func 13), args := #[Operand.tmp 111], argTypes := #[26] }, type := 3, pos := "law.go:53", after := #[{ on := 47, ground := Ground.data }, { on := 46, ground := Ground.chain }, { on := 46, ground := Ground.guard }], guard := some (46, true) }) rfl (fun KK hK => ?_) AllReadyH.nil
      go_simp
      go_wp2_with (go_at_call 13; refine (num_any _ _).mono ?_; rintro r wz ⟨rfl, hz⟩; subst wz)
      obtain ⟨q0, q1, q2⟩ := HCS.out _ HV5.out
      refine hK.out _ _ ⟨q0, q1, q2⟩ (fun hHeld => ?_)
      clear hK
      try simp only [Act.put, List.setIfInBounds_toArray, List.set_cons_zero, List.set_cons_succ]
      refine wpAnyH_take (i := 49) (oi := { dst := some 113, op := Op.binOp BinOp.eql 3 (Operand.tmp 112) (Operand.const (Value.int IntKind.i64 0)) 3, type := 4, pos := "law.go:53", after := #[{ on := 48, ground := Ground.data }, { on := 46, ground := Ground.guard }], guard := some (46, true) }) (v := ?v49) rfl (by kernel_rfl) (by kernel_rfl) (by kernel_rfl) (fun _ _ _ h => h) (Or.inl ⟨by rfl, ?h49⟩) hHeld ?r49
      case h49 => intro w hSw; (try dsimp only at hSw); go_simp; try with_reducible rfl
      try simp only [Act.put, List.setIfInBounds_toArray, List.set_cons_zero, List.set_cons_succ]
      refine wpAnyH_take (i := 50) (oi := { dst := some 114, op := Op.pick (Operand.tmp 110) (Operand.tmp 113) (Operand.const (Value.bool false)), type := 4, pos := "law.go:53", after := #[{ on := 46, ground := Ground.data }, { on := 49, ground := Ground.data }], guard := none }) (v := ?v50) rfl (by kernel_rfl) (by kernel_rfl) (by kernel_rfl) (fun _ _ _ h => h) (Or.inl ⟨by rfl, ?h50⟩) hHeld ?r50
      case h50 => intro w hSw; (try dsimp only at hSw); go_simp; try with_reducible rfl
      try simp only [Act.put, List.setIfInBounds_toArray, List.set_cons_zero, List.set_cons_succ]
      refine wpAnyH_take (i := 51) (oi := { dst := some 4, op := Op.assign (Operand.tmp 114), type := 4, pos := "law.go:53", after := #[{ on := 50, ground := Ground.data }, { on := 48, ground := Ground.chain }, { on := 0, ground := Ground.phase }, { on := 1, ground := Ground.phase }, { on := 2, ground := Ground.phase }, { on := 3, ground := Ground.phase }, { on := 4, ground := Ground.phase }, { on := 5, ground := Ground.phase }, { on := 6, ground := Ground.phase }, { on := 7, ground := Ground.phase }, { on := 8, ground := Ground.phase }, { on := 9, ground := Ground.phase }, { on := 10, ground := Ground.phase }, { on := 11, ground := Ground.phase }, { on := 12, ground := Ground.phase }, { on := 13, ground := Ground.phase }, { on := 14, ground := Ground.phase }, { on := 15, ground := Ground.phase }, { on := 16, ground := Ground.phase }, { on := 17, ground := Ground.phase }, { on := 18, ground := Ground.phase }, { on := 19, ground := Ground.phase }, { on := 20, ground := Ground.phase }, { on := 21, ground := Ground.phase }, { on := 22, ground := Ground.phase }, { on := 23, ground := Ground.phase }, { on := 24, ground := Ground.phase }, { on := 25, ground := Ground.phase }, { on := 26, ground := Ground.phase }, { on := 27, ground := Ground.phase }, { on := 28, ground := Ground.phase }, { on := 29, ground := Ground.phase }, { on := 30, ground := Ground.phase }, { on := 31, ground := Ground.phase }, { on := 32, ground := Ground.phase }, { on := 33, ground := Ground.phase }, { on := 34, ground := Ground.phase }, { on := 35, ground := Ground.phase }, { on := 36, ground := Ground.phase }, { on := 37, ground := Ground.phase }, { on := 38, ground := Ground.phase }, { on := 39, ground := Ground.phase }, { on := 40, ground := Ground.phase }, { on := 41, ground := Ground.phase }, { on := 42, ground := Ground.phase }, { on := 43, ground := Ground.phase }, { on := 44, ground := Ground.phase }, { on := 45, ground := Ground.phase }, { on := 46, ground := Ground.phase }, { on := 47, ground := Ground.phase }, { on := 48, ground := Ground.phase }, { on := 49, ground := Ground.phase }, { on := 50, ground := Ground.phase }], guard := none }) (v := ?v51) rfl (by kernel_rfl) (by kernel_rfl) (by kernel_rfl) (fun _ _ _ h => h) (Or.inl ⟨by rfl, ?h51⟩) hHeld ?r51
      case h51 => intro w hSw; (try dsimp only at hSw); go_simp; try with_reducible rfl
      try simp only [Act.put, List.setIfInBounds_toArray, List.set_cons_zero, List.set_cons_succ]
      refine wpAnyH_done (by kernel_rfl) ?_ _
      go_wp2
      go_ret
      exact ⟨by first | rfl | simp, HV5.out⟩
end Go.Proofs.Yteekpfgjpdopmaa
