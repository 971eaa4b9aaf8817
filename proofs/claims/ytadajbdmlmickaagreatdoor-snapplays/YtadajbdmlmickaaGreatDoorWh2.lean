/-
  whole: the snapshot that a file has, if the file is whole.
-/
import Derived.Test.YtadajbdmlmickaaGreatDoorFm
import Derived.Test.YtadajbdmlmickaaGreatDoorSx
import Derived.Test.YtadajbdmlmickaaGreatDoorNmo
import Derived.Test.YtadajbdmlmickaaGreatDoorJCc
import Derived.Deep.RegionHeld3
namespace Go.Proofs.YtadajbdmlmickaaGreatDoor
open Go.RowKit
set_option linter.unusedVariables false

/-- A file's bytes as a snapshot of the index i: what whole answers. -/
def whR (i : Nat) (x : List UInt8 × Nat) : Option (Nat × Nat × List UInt8) := if x.2 = 0 then snapD i x.1 else none
theorem whole_rd (p : PD) (i : Nat) : wholeP p i = whR i (rdX p (nmL i)) := by
  unfold wholeP whR rdX
  cases lookP (nmL i) p.fs with
  | none => simp
  | some f => simp

theorem Fr.oneOf_len (l : List UInt8) : (Fr.oneOf l).1.length ≤ l.length := by
  unfold Fr.oneOf Fr.getAt Fr.getFront
  have h0 : ¬ ((0 : Int) < 0 ∨ (l.length : Int) < 0) := by omega
  rw [if_neg h0]
  simp only [Int.toNat_zero, List.drop_zero]
  repeat' split
  all_goals (simp only [List.length_nil, List.length_take, List.length_drop]; omega)
/-- What whole answers. -/
def WhR (w : World) (o : Option (Nat × Nat × List UInt8)) (r : Ending) (w' : World) : Prop := ∃ (z0 z1 : Int) (u : Value) (m : List UInt8), r = .returned (.tuple #[.agg #[.int .i64 z0, .int .i64 z1, u], .bool o.isSome]) ∧ Ow w.heap.size w' u m ∧ (∀ s, o = some s → z0 = s.1 ∧ z1 = s.2.1 ∧ m = s.2.2) ∧ Below w.heap.size w w'
theorem WhR.no {w w' : World} (h : Below w.heap.size w w') : WhR w none (.returned (.tuple #[.agg #[.int .i64 0, .int .i64 0, .slice none 0 0], .bool false])) w' := ⟨0, 0, _, [], rfl, Ow.nil _ _, fun _ h9 => (by cases h9), h⟩

set_option maxRecDepth 100000 in
set_option maxHeartbeats 4000000 in
theorem whole_any {N : Nat} {S : Nat → Prop} {w : World} {d : Nat} {p : PD} (h : Dsk N w S d p) (hv : ∀ V, Below w.heap.size w V → Vars V) (i : Nat) (hi : i ≤ 4611686018427387904) :
    Calls Tryz.prog 41 #[.pointer (some ⟨d, 0, none⟩), .int .i64 (i : Int)] w fun r w' => WhR w (wholeP p i) r w' := by
  rw [whole_rd]
  obtain ⟨W0, hW0⟩ : ∃ W0, w.alloc (.cells #[.int .i64 0, .int .i64 0, .slice none 0 0] 34) = W0 := ⟨_, rfl⟩
  have HW0 : Hid (w.alloc (.cells #[.int .i64 0, .int .i64 0, .slice none 0 0] 34) = W0) := hW0
  have hB0 : Below w.heap.size w W0 := by rw [← hW0]; exact (Below.refl _ w).alloc (Nat.le_refl _) _
  have hz0 : W0.heap.size = w.heap.size + 1 := by rw [← hW0]; simp
  have hbx : W0.heap[w.heap.size]? = some (.cells #[.int .i64 0, .int .i64 0, .slice none 0 0] 34 (0, 0)) := by rw [← hW0]; exact heap_alloc_new w _
  have HB0 : Hid (Below w.heap.size w W0) := hB0
  have HR : Hid (∀ V, Below W0.heap.size W0 V → V.heap[w.heap.size]? = some (.cells #[.int .i64 0, .int .i64 0, .slice none 0 0] 34 (0, 0)) ∧ w.heap.size < V.heap.size) := fun V hV => ⟨(hV.block _ (by omega)).trans hbx, by have := hV.size; omega⟩
  have HNM : Hid (Calls _ _ _ _ _) := nameOf_any i hi W0 (hv W0 hB0)
  have HRD : Hid (∀ w1, Below W0.heap.size W0 w1 → Calls Tryz.prog 79 #[.pointer (some ⟨d, 0, none⟩), .string ⟨(nmL i).toArray⟩] w1 fun r w' => ∃ v, r = .returned (.tuple #[v, .int .i64 ((rdX p (nmL i)).2 : Int)]) ∧ Ow w1.heap.size w' v (rdX p (nmL i)).1 ∧ Below w1.heap.size w1 w') := fun w1 hB1 => read_x ((h.below hB0).below hB1) (nmL i) (by rw [nmL_len]; unfold maxLen; omega)
  have HDL : Hid ((rdX p (nmL i)).1.length ≤ 1099511627776) := by have := h.dat (nmL i); show _ ≤ _; omega
  clear h hv hB0 hbx hW0
  obtain ⟨x, hx⟩ : ∃ x, rdX p (nmL i) = x := ⟨_, rfl⟩
  rw [hx] at HRD HDL ⊢
  clear hx
  obtain ⟨l, e0⟩ := x
  simp only at HRD HDL
  obtain ⟨o, ho⟩ : ∃ o, whR i (l, e0) = o := ⟨_, rfl⟩
  rw [ho]
  have HOO : Hid (whR i (l, e0) = o) := ho
  clear ho
  go_enter Tryz.func41, Tryz.ntmps41
  go_wp2_with fail
  rw [HW0.out]
  refine HNM.out.mono ?_
  rintro r w1 ⟨rfl, hB1⟩
  have HC1 : Hid (Calls _ _ _ _ _) := HRD.out w1 hB1
  have HB1 : Hid (Below W0.heap.size W0 w1) := hB1
  clear hB1 HRD HNM
  go_wp2_with fail
  refine HC1.out.mono ?_
  rintro r w2 ⟨v2, rfl, hO2, hB2⟩
  obtain ⟨a2, cp2, hsh, -, -⟩ := hO2.shape
  subst hsh
  have HB2 : Hid (Below W0.heap.size W0 w2) := HB1.out.trans (hB2.mono HB1.out.size)
  obtain ⟨hbx2, hzw2⟩ := HR.out w2 HB2.out
  have HX2 : Hid (w2.heap[w.heap.size]? = some (.cells #[.int .i64 0, .int .i64 0, .slice none 0 0] 34 (0, 0))) := hbx2
  obtain ⟨⟨c0, c1, c2⟩, f0, f1, f2⟩ := Cd.cells3 hbx2
  have HO1 : Hid (Calls _ _ _ _ _) := Fr.one_any w2.heap.size _ l w2 (show Fr.Sl _ _ _ _ from hO2.sl (Nat.le_refl _)) (Nat.le_refl _) HDL.out
  clear hO2 hB2 HC1 hbx2
  by_cases he0 : e0 = 0
  · subst he0
    obtain ⟨y, hy⟩ : ∃ y, Fr.oneOf l = y := ⟨_, rfl⟩
    have hwr : whR i (l, 0) = if y.2 = 0 ∧ Cd.geSnap y.1 = 0 ∧ (Cd.goSnap y.1).1 = i then some (Cd.goSnap y.1) else none := by unfold whR snapD; rw [hy]; rfl
    have HWR : Hid (o = if y.2 = 0 ∧ Cd.geSnap y.1 = 0 ∧ (Cd.goSnap y.1).1 = i then some (Cd.goSnap y.1) else none) := HOO.out.symm.trans hwr
    rw [hy] at HO1
    have HOL : Hid (y.2 = 0 → y.1.length ≤ 1099511627776) := fun h0 => by
      have h1 := Fr.oneOf_len l
      rw [hy] at h1
      have := HDL.out
      omega
    clear hy hwr
    obtain ⟨tx, e1⟩ := y
    simp only at HO1
    go_wp2_with fail
    refine HO1.out.mono ?_
    rintro r w3 ⟨v3, rfl, hO3, hB3⟩
    obtain ⟨a3, cp3, hsh, hcp3, hcm3⟩ := hO3.shape
    subst hsh
    have HB3 : Hid (Below W0.heap.size W0 w3) := HB2.out.trans (hB3.mono HB2.out.size)
    obtain ⟨hbx3, hzw3⟩ := HR.out w3 HB3.out
    have HX3 : Hid (w3.heap[w.heap.size]? = some (.cells #[.int .i64 0, .int .i64 0, .slice none 0 0] 34 (0, 0))) := hbx3
    obtain ⟨⟨c0', c1', c2'⟩, f0', f1', f2'⟩ := Cd.cells3 hbx3
    have HGT : Hid (tx.length ≤ 1099511627776 → Calls _ _ _ _ _) := fun ht => Cd.getSnap_any tx _ w3.heap.size w3 (show Cd.Sl _ _ _ _ from hO3.sl (Nat.le_refl _)) (Nat.le_refl _) ht
    have HTX : Hid (e1 = 0 → tx.length ≤ 1099511627776) := fun h0 => HOL.out h0
    clear hO3 hB3 HO1 hbx3 c0 c1 c2 f0 f1 f2
    by_cases he1 : e1 = 0
    · subst he1
      have HG2 : Hid (Calls _ _ _ _ _) := HGT.out (HTX.out rfl)
      clear HGT
      go_wp2_with fail
      refine HG2.out.mono ?_
      rintro r w4 ⟨u4, rfl, hO4, hB4⟩
      obtain ⟨a4, cp4, hsh, hcp4, hcm4⟩ := hO4.shape
      subst hsh
      obtain ⟨E, hE⟩ : ∃ E, Cd.geSnap tx = E := ⟨_, rfl⟩
      obtain ⟨g0, g1, g2, hg⟩ : ∃ g0 g1 g2, Cd.goSnap tx = (g0, g1, g2) := ⟨_, _, _, rfl⟩
      have HW2 : Hid (o = if E = 0 ∧ g0 = i then some (g0, g1, g2) else none) := by show o = _; rw [HWR.out, hE, hg]; simp
      rw [hE, hg]
      rw [hg] at hO4 hcp4
      simp only at hO4 hcp4 ⊢
      have HO4 : Hid (Ow w3.heap.size w4 (.slice a4 g2.length cp4) g2) := hO4
      have HB4 : Hid (Below W0.heap.size W0 w4) := HB3.out.trans (hB4.mono HB3.out.size)
      obtain ⟨W5, hW5⟩ : ∃ W5, w4.alloc (.cells #[.int .i64 (g0 : Int), .int .i64 (g1 : Int), .slice a4 g2.length cp4] 34) = W5 := ⟨_, rfl⟩
      have HW5 : Hid (w4.alloc (.cells #[.int .i64 (g0 : Int), .int .i64 (g1 : Int), .slice a4 g2.length cp4] 34) = W5) := hW5
      have hB45 : Below w4.heap.size w4 W5 := by rw [← hW5]; exact (Below.refl _ w4).alloc (Nat.le_refl _) _
      have HB5 : Hid (Below W0.heap.size W0 W5) := HB4.out.trans (hB45.mono HB4.out.size)
      have hx5 : W5.heap[w4.heap.size]? = some (.cells #[.int .i64 (g0 : Int), .int .i64 (g1 : Int), .slice a4 g2.length cp4] 34 (0, 0)) := by rw [← hW5]; exact heap_alloc_new w4 _
      obtain ⟨hbx5, hzw5⟩ := HR.out W5 HB5.out
      obtain ⟨⟨c0, c1, c2⟩, f0, f1, f2⟩ := Cd.cells3 hbx5
      obtain ⟨⟨m0, m1, m2⟩, -⟩ := Cd.cells3 hx5
      have HX5 : Hid (W5.heap[w.heap.size]? = some (.cells #[.int .i64 0, .int .i64 0, .slice none 0 0] 34 (0, 0))) := hbx5
      have hne : w.heap.size ≠ w4.heap.size := by have := HB4.out.size; omega
      have hlz : w.heap.size < W5.heap.size ∧ w4.heap.size < W5.heap.size := ⟨hzw5, (Array.getElem?_eq_some_iff.1 hx5).1⟩
      have HO5 : Hid (Ow w.heap.size W5 (.slice a4 g2.length cp4) g2) := (HO4.out.below hB45 (Nat.le_refl _)).base (by have := HB3.out.size; omega)
      have HFIN : Hid (WhR w (if E = 0 ∧ g0 = i then some (g0, g1, g2) else none) (.returned (.tuple #[.agg #[.int .i64 (g0 : Int), .int .i64 (g1 : Int), .slice a4 g2.length cp4], .bool (decide (E = 0 ∧ g0 = i))])) ((((W5.setCell ⟨w.heap.size, 0, none⟩ (.int .i64 (g0 : Int))).setCell ⟨w.heap.size, 1, none⟩ (.int .i64 (g1 : Int))).setCell ⟨w.heap.size, 2, none⟩ (.slice a4 g2.length cp4))).drew) := by
        have hO6 := HO5.out.kept (Cd.grownset3 W5 w.heap.size (.int .i64 (g0 : Int)) (.int .i64 (g1 : Int)) (.slice a4 g2.length cp4)) (.inr (HO5.out.not_at HX5.out (by decide)))
        refine ⟨g0, g1, _, g2, ?_, hO6.below (below_drewN (Below.refl _ _) 1) (Nat.le_refl _), ?_, below_drewN (Cd.belset3 (HB0.out.trans (HB5.out.mono HB0.out.size)) (by omega) _ _ _) 1⟩
        · by_cases hc : E = 0 ∧ g0 = i
          · rw [if_pos hc]; simp [hc]
          · rw [if_neg hc]; simp only [Option.isSome_none]; simp only [decide_eq_false hc]
        · intro sn hsn
          by_cases hc : E = 0 ∧ g0 = i
          · rw [if_pos hc] at hsn; cases hsn; exact ⟨rfl, rfl, rfl⟩
          · rw [if_neg hc] at hsn; cases hsn
      clear hO4 hB4 HG2 hW5 hB45 hx5 hbx5 HO4 HO5 hE hg c0' c1' c2' f0' f1' f2'
      go_wp2_with fail
      rw [HW5.out]
      clear HW5
      by_cases h0 : E = 0
      · subst h0
        by_cases hgi : g0 = i
        · subst hgi
          go_wp2_with fail
          go_region_held3 (fun wx => wx.cell? ⟨w4.heap.size, 0, none⟩ = some (.int .i64 (g0 : Int)) ∧ wx.cell? ⟨w4.heap.size, 1, none⟩ = some (.int .i64 (g1 : Int)) ∧ wx.cell? ⟨w4.heap.size, 2, none⟩ = some (.slice a4 g2.length cp4)) (go_keep) (fail)
          go_wp2
          refine bodyPost_ret (Cd.results_57 rfl _ _ w.heap.size rfl (Cd.set3 HX5.out _ _ _)) rfl ?_
          rw [HW2.out]
          have := HFIN.out
          simpa using this
        · have hgi' : ((g0 : Int) == (i : Int)) = false := by simp; omega
          go_wp2_with fail
          go_region_held3 (fun wx => wx.cell? ⟨w4.heap.size, 0, none⟩ = some (.int .i64 (g0 : Int)) ∧ wx.cell? ⟨w4.heap.size, 1, none⟩ = some (.int .i64 (g1 : Int)) ∧ wx.cell? ⟨w4.heap.size, 2, none⟩ = some (.slice a4 g2.length cp4)) (go_keep) (fail)
          go_wp2
          refine bodyPost_ret (Cd.results_57 rfl _ _ w.heap.size rfl (Cd.set3 HX5.out _ _ _)) rfl ?_
          rw [HW2.out]
          have := HFIN.out
          simpa [hgi] using this
      · have h0' : ((E : Int) == 0) = false := by simp; omega
        go_wp2_with fail
        refine wp_region_noPanic ?_
        refine wp_region_held_drew (S := (fun wx => wx.cell? ⟨w4.heap.size, 0, none⟩ = some (.int .i64 (g0 : Int)) ∧ wx.cell? ⟨w4.heap.size, 1, none⟩ = some (.int .i64 (g1 : Int)) ∧ wx.cell? ⟨w4.heap.size, 2, none⟩ = some (.slice a4 g2.length cp4))) (by kernel_rfl) ⟨m0, m1, m2⟩ (fun hHeld => ?_)
        refine wpAnyH_take (i := 0) (oi := { dst := some 34, op := Op.load 34 (Operand.tmp 9), type := 34, pos := "snap.go:82", after := #[], guard := none }) (v := ?v0) rfl (by kernel_rfl) (by kernel_rfl) (by kernel_rfl) (fun _ _ _ h => h) (Or.inl ⟨by rfl, ?h0⟩) hHeld ?r0
        case h0 => intro w hSw; (try dsimp only at hSw); obtain ⟨s0, s1, s2⟩ := hSw; go_simp; try with_reducible rfl
        try simp only [Act.put, List.setIfInBounds_toArray, List.set_cons_zero, List.set_cons_succ]
        refine wpAnyH_take (i := 1) (oi := { dst := some 35, op := Op.move (Operand.tmp 7), type := 39, pos := "snap.go:82", after := #[], guard := none }) (v := ?v1) rfl (by kernel_rfl) (by kernel_rfl) (by kernel_rfl) (fun _ _ _ h => h) (Or.inl ⟨by rfl, ?h1⟩) hHeld ?r1
        case h1 => intro w hSw; (try dsimp only at hSw); obtain ⟨s0, s1, s2⟩ := hSw; go_simp; try with_reducible rfl
        try simp only [Act.put, List.setIfInBounds_toArray, List.set_cons_zero, List.set_cons_succ]
        refine wpAnyH_take (i := 2) (oi := { dst := some 36, op := Op.binOp BinOp.eql 39 (Operand.tmp 35) (Operand.const (Value.int IntKind.i64 0)) 39, type := 4, pos := "snap.go:82", after := #[{ on := 1, ground := Ground.data }], guard := none }) (v := ?v2) rfl (by kernel_rfl) (by kernel_rfl) (by kernel_rfl) (fun _ _ _ h => h) (Or.inl ⟨by rfl, ?h2⟩) hHeld ?r2
        case h2 => intro w hSw; (try dsimp only at hSw); obtain ⟨s0, s1, s2⟩ := hSw; go_simp; try with_reducible rfl
        try simp only [Act.put, List.setIfInBounds_toArray, List.set_cons_zero, List.set_cons_succ]
        refine wpAnyH_take (i := 3) (oi := { dst := some 37, op := Op.move (Operand.tmp 36), type := 4, pos := "snap.go:82", after := #[{ on := 2, ground := Ground.data }], guard := none }) (v := ?v3) rfl (by kernel_rfl) (by kernel_rfl) (by kernel_rfl) (fun _ _ _ h => h) (Or.inl ⟨by rfl, ?h3⟩) hHeld ?r3
        case h3 => intro w hSw; (try dsimp only at hSw); obtain ⟨s0, s1, s2⟩ := hSw; go_simp; try with_reducible rfl
        try simp only [Act.put, List.setIfInBounds_toArray, List.set_cons_zero, List.set_cons_succ]
        refine wpAnyH_take (i := 4) (oi := { dst := some 38, op := Op.fieldAddr 34 (Operand.tmp 9) 0, type := 0, pos := "snap.go:82", after := #[{ on := 3, ground := Ground.guard }, { on := 9, ground := Ground.gcOnly Departure.lateStores }], guard := some (3, true) }) (v := undef) rfl (by kernel_rfl) (by kernel_rfl) (by kernel_rfl) (fun _ _ _ h => h) (Or.inr ⟨by rfl, rfl⟩) hHeld ?_
        try simp only [Act.put, List.setIfInBounds_toArray, List.set_cons_zero, List.set_cons_succ]
        refine wpAnyH_take (i := 5) (oi := { dst := some 39, op := Op.load 3 (Operand.tmp 38), type := 3, pos := "snap.go:82", after := #[{ on := 4, ground := Ground.data }, { on := 3, ground := Ground.guard }, { on := 9, ground := Ground.gcOnly Departure.lateStores }], guard := some (3, true) }) (v := undef) rfl (by kernel_rfl) (by kernel_rfl) (by kernel_rfl) (fun _ _ _ h => h) (Or.inr ⟨by rfl, rfl⟩) hHeld ?_
        try simp only [Act.put, List.setIfInBounds_toArray, List.set_cons_zero, List.set_cons_succ]
        refine wpAnyH_take (i := 6) (oi := { dst := some 40, op := Op.move (Operand.tmp 1), type := 3, pos := "snap.go:82", after := #[{ on := 3, ground := Ground.guard }, { on := 9, ground := Ground.gcOnly Departure.lateStores }], guard := some (3, true) }) (v := undef) rfl (by kernel_rfl) (by kernel_rfl) (by kernel_rfl) (fun _ _ _ h => h) (Or.inr ⟨by rfl, rfl⟩) hHeld ?_
        try simp only [Act.put, List.setIfInBounds_toArray, List.set_cons_zero, List.set_cons_succ]
        refine wpAnyH_take (i := 7) (oi := { dst := some 41, op := Op.binOp BinOp.eql 3 (Operand.tmp 39) (Operand.tmp 40) 3, type := 4, pos := "snap.go:82", after := #[{ on := 5, ground := Ground.data }, { on := 6, ground := Ground.data }, { on := 3, ground := Ground.guard }, { on := 9, ground := Ground.gcOnly Departure.lateStores }], guard := some (3, true) }) (v := undef) rfl (by kernel_rfl) (by kernel_rfl) (by kernel_rfl) (fun _ _ _ h => h) (Or.inr ⟨by rfl, rfl⟩) hHeld ?_
        try simp only [Act.put, List.setIfInBounds_toArray, List.set_cons_zero, List.set_cons_succ]
        refine wpAnyH_take (i := 8) (oi := { dst := some 42, op := Op.pick (Operand.tmp 37) (Operand.tmp 41) (Operand.const (Value.bool false)), type := 4, pos := "snap.go:82", after := #[{ on := 3, ground := Ground.data }, { on := 7, ground := Ground.data }, { on := 9, ground := Ground.gcOnly Departure.lateStores }], guard := none }) (v := ?v8) rfl (by kernel_rfl) (by kernel_rfl) (by kernel_rfl) (fun _ _ _ h => h) (Or.inl ⟨by rfl, ?h8⟩) hHeld ?r8
        case h8 => intro w hSw; (try dsimp only at hSw); obtain ⟨s0, s1, s2⟩ := hSw; go_simp; try with_reducible rfl
        try simp only [Act.put, List.setIfInBounds_toArray, List.set_cons_zero, List.set_cons_succ]
        refine wpAnyH_ready (rs := [9]) (by kernel_rfl) (by simp) ?_
        refine AllReadyH.cons (o := { dst := none, op := Op.store 34 (Operand.tmp 4) (Operand.tmp 34), type := 0, pos := "snap.go:82", after := #[{ on := 0, ground := Ground.data }, { on := 3, ground := Ground.chain }, { on := 0, ground := Ground.phase }, { on := 1, ground := Ground.textOnly Departure.lateStores }, { on := 2, ground := Ground.textOnly Departure.lateStores }, { on := 3, ground := Ground.textOnly Departure.lateStores }, { on := 4, ground := Ground.textOnly Departure.lateStores }, { on := 5, ground := Ground.textOnly Departure.lateStores }, { on := 6, ground := Ground.textOnly Departure.lateStores }, { on := 7, ground := Ground.textOnly Departure.lateStores }, { on := 8, ground := Ground.textOnly Departure.lateStores }], guard := none }) rfl (fun KK hK => ?_) ?_
        · go_simp
          refine hK.out _ _ (by refine ⟨?_, ?_, ?_⟩ <;> go_keep) (fun hHeld => ?_)
          clear hK KK
          try simp only [Act.put, List.setIfInBounds_toArray, List.set_cons_zero, List.set_cons_succ]
          refine wpAnyH_take (i := 10) (oi := { dst := some 5, op := Op.assign (Operand.tmp 42), type := 4, pos := "snap.go:82", after := #[{ on := 8, ground := Ground.data }, { on := 9, ground := Ground.chain }, { on := 0, ground := Ground.phase }, { on := 1, ground := Ground.phase }, { on := 2, ground := Ground.phase }, { on := 3, ground := Ground.phase }, { on := 4, ground := Ground.phase }, { on := 5, ground := Ground.phase }, { on := 6, ground := Ground.phase }, { on := 7, ground := Ground.phase }, { on := 8, ground := Ground.phase }, { on := 9, ground := Ground.phase }], guard := none }) (v := ?v10) rfl (by kernel_rfl) (by kernel_rfl) (by kernel_rfl) (fun _ _ _ h => h) (Or.inl ⟨by rfl, ?h10⟩) hHeld ?r10
          case h10 => intro w hSw; (try dsimp only at hSw); obtain ⟨s0, s1, s2⟩ := hSw; go_simp; try with_reducible rfl
          try simp only [Act.put, List.setIfInBounds_toArray, List.set_cons_zero, List.set_cons_succ]
          refine wpAnyH_done (by kernel_rfl) ?_ _
          refine NoPanic.normal ?_
          go_wp2
          refine bodyPost_ret (Cd.results_57 rfl _ _ w.heap.size rfl (Cd.set3 HX5.out _ _ _)) rfl ?_
          rw [HW2.out]
          have := HFIN.out
          simpa [h0] using this
        exact AllReadyH.nil
    · have he1' : ((e1 : Int) != 0) = true := by simp; omega
      have HN : Hid (o = none) := by show o = none; rw [HWR.out, if_neg (fun hc => he1 hc.1)]
      clear HGT
      go_wp2
      refine bodyPost_ret (Cd.results_57 rfl _ _ w.heap.size rfl (Cd.set3 HX3.out _ _ _)) rfl ?_
      rw [HN.out]
      exact WhR.no (Cd.belset3 (HB0.out.trans (HB3.out.mono HB0.out.size)) (by omega) _ _ _)
  · have he0' : ((e0 : Int) != 0) = true := by simp; omega
    have hwr : whR i (l, e0) = none := by unfold whR; rw [if_neg he0]
    have HN : Hid (o = none) := HOO.out.symm.trans hwr
    clear HO1 hwr
    go_wp2
    refine bodyPost_ret (Cd.results_57 rfl _ _ w.heap.size rfl (Cd.set3 HX2.out _ _ _)) rfl ?_
    rw [HN.out]
    exact WhR.no (Cd.belset3 (HB0.out.trans (HB2.out.mono HB0.out.size)) (by omega) _ _ _)
end Go.Proofs.YtadajbdmlmickaaGreatDoor
