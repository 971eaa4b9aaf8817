/-
  The document's network: Copy.
-/
import Derived.Test.YtefbfjlmhfmiiaaRs
import Derived.Test.YtefbfjlmhfmiiaaRc
namespace Go.Proofs.Ytefbfjlmhfmiiaa
open Go.RowKit
set_option linter.unusedVariables false

set_option maxRecDepth 100000 in
set_option maxHeartbeats 8000000 in
/-- Copy. -/
theorem RCopy_any {N : Nat} {S : Nat → Prop} {w : World} {b : Nat} {P : PN} {C : List Pr} (h : Rn N S w b P C) (hN : N ≤ w.heap.size) (i : Int) (hk : P.k < 1000000000) :
    Calls Try.prog 32 #[.pointer (some ⟨b, 0, none⟩), .int .i64 i] w fun r w' => r = .returned (.bool (P.cpy i)) ∧ RTh N S w w' b (P.copy i) C := by
  have hbw := h.inn _ h.Sb
  have HAT : Hid (Calls _ _ _ _ _) := there_any h i
  unfold PN.cpy PN.copy
  by_cases ha : P.at i = true
  · obtain ⟨i0, i1, i2⟩ := PN.at_of ha
    obtain ⟨k, rfl⟩ : ∃ k : Nat, i = (k : Int) := ⟨i.toNat, i2.symm⟩
    simp only [Int.toNat_natCast] at i1
    clear i2
    obtain ⟨va, vn, es, ca, cn, hm, hel, -, -, -, -, hv1, hv2, hv3⟩ := h.cells
    have hkl : k < es.length := by omega
    obtain ⟨e, he⟩ : ∃ e, es.getD k nilMl = e := ⟨_, rfl⟩
    have hmem : e ∈ es := by rw [← he]; exact getD_mem' hkl
    have hat := MlsOw.at (es := es) (by rw [hel]; exact hm.row)
    obtain ⟨g, off, rfl, hg, hcs⟩ := hat.at hkl
    rw [he] at hcs
    have hsy : P.E.getD k nilMa = e.says := by rw [ml_says hm.says k, he]
    have hd := h.ok.dl _ (getD_memA i1)
    rw [hsy] at hd
    have hd' : e.d.length ≤ 140737488355328 := hd
    rw [if_pos ha, Int.toNat_natCast, hsy]
    show Calls _ _ _ _ fun r w' => r = .returned (.bool (P.at (k : Int) && decide (P.E.length < 2000))) ∧ RTh N S w w' b (P.add e.f e.t e.d e.s) C
    rw [ha] at HAT ⊢
    obtain ⟨⟨c0, c1, c2, c3⟩, cf⟩ := cells4 hm.blk
    have f2 := cf 2
    by_cases hr : P.E.length < 2000
    · have hk0 := h.ok.k0
      have hkw : IntKind.i64.wrap (P.k + 1) = P.k + 1 := by rw [IntKind.wrap_i64]; omega
      rw [show (true && decide (P.E.length < 2000)) = true by simp [hr]]
      have hr' : ¬ (2000 : Int) ≤ (P.E.length : Int) := by omega
      obtain ⟨W2, hW2⟩ : ∃ W2, w.setCell ⟨b, 2, none⟩ (.int .i64 (P.k + 1)) = W2 := ⟨_, rfl⟩
      have HW2 : Hid (w.setCell ⟨b, 2, none⟩ (.int .i64 (P.k + 1)) = W2) := hW2
      have hO2 : Out (fun i => i = b) w W2 := by rw [← hW2]; exact Out.set rfl
      have hz2 : W2.heap.size = w.heap.size := by rw [← hW2, size_set]
      have hb2 : W2.heap[b]? = some (.cells #[.int .i64 P.n, .slice (some ⟨g, off, none⟩) P.E.length vn, .int .i64 (P.k + 1), .slice ca C.length cn] 39 (0, 0)) := by rw [← hW2]; exact heap_set hm.blk 2 _
      have hgb : g ≠ b := by rintro rfl; exact hm.row.not_at hm.blk (by decide) rfl
      have hr2 : MlsOw 58 0 W2 (.slice (some ⟨g, off, none⟩) P.E.length vn) es := hm.row.out hO2 (by rintro g hg rfl; exact hm.row.not_at hm.blk (by decide) hg) (by rintro e he g hg rfl; exact (hm.row.dat e he).not_at hm.blk (by decide) hg)
      have hat2 := MlsOw.at (es := es) (by rw [hel]; exact hr2)
      obtain ⟨g', off', hge, hg2, hcs2⟩ := hat2.at hkl
      cases hge
      rw [he] at hcs2
      obtain ⟨e0, e1, e2, e3, e4, e5⟩ := hcs2
      unfold Ml.x at e3 e5
      obtain ⟨x0, x1, x2, x3, x4, -⟩ := hcs
      unfold Ml.x at x3
      obtain ⟨WB, hWB⟩ : ∃ WB, W2.alloc (.cells #[.int .i64 e.n, .int .i64 e.f, .int .i64 e.t, .slice e.a e.d.length e.c, .bool e.s] 58) = WB := ⟨_, rfl⟩
      have HWB : Hid (W2.alloc (.cells #[.int .i64 e.n, .int .i64 e.f, .int .i64 e.t, .slice e.a e.d.length e.c, .bool e.s] 58) = WB) := hWB
      have hzB : WB.heap.size = w.heap.size + 1 := by rw [← hWB]; simp [hz2]
      have hBB : Below W2.heap.size W2 WB := by rw [← hWB]; exact (Below.refl _ _).alloc (Nat.le_refl _) _
      have hbx : WB.heap[w.heap.size]? = some (.cells #[.int .i64 e.n, .int .i64 e.f, .int .i64 e.t, .slice e.a e.d.length e.c, .bool e.s] 58 (0, 0)) := by rw [← hWB, ← hz2]; exact heap_alloc_new W2 _
      have HB3 : Hid (∀ w3, Below WB.heap.size WB w3 → Below W2.heap.size W2 w3) := fun w3 h3 => hBB.trans (h3.mono (by omega))
      have HBC : Hid (∀ w3, Below WB.heap.size WB w3 → w.heap.size < w3.heap.size ∧ w3.cell? ⟨w.heap.size, 1, none⟩ = some (.int .i64 e.f) ∧ w3.cell? ⟨w.heap.size, 2, none⟩ = some (.int .i64 e.t) ∧ w3.cell? ⟨w.heap.size, 3, none⟩ = some (.slice e.a e.d.length e.c) ∧ w3.cell? ⟨w.heap.size, 4, none⟩ = some (.bool e.s)) := fun w3 h3 => by
        have hx3 := (h3.block w.heap.size (by omega)).trans hbx
        have := h3.size
        exact ⟨by omega, by simp only [World.cell?, hx3]; rfl, by simp only [World.cell?, hx3]; rfl, by simp only [World.cell?, hx3]; rfl, by simp only [World.cell?, hx3]; rfl⟩
      have HBG : Hid (∀ (w3 w6 : World) (o : Obj), Below WB.heap.size WB w3 → (w3.alloc o).grownBy w6 (Value.slice (some ⟨g, off, none⟩) P.E.length vn).ownBlock → w.heap.size < w6.heap.size ∧ w6.cell? ⟨w.heap.size, 1, none⟩ = some (.int .i64 e.f) ∧ w6.cell? ⟨w.heap.size, 2, none⟩ = some (.int .i64 e.t) ∧ w6.cell? ⟨w.heap.size, 3, none⟩ = some (.slice e.a e.d.length e.c) ∧ w6.cell? ⟨w.heap.size, 4, none⟩ = some (.bool e.s)) := fun w3 w6 o h3 hg9 => by
        have h4 : Below WB.heap.size WB (w3.alloc o) := h3.alloc h3.size _
        have hx4 := (h4.block w.heap.size (by omega)).trans hbx
        have hz4 := h4.size
        have hx6 := (hg9.block w.heap.size (by omega) (fun e9 => by have := h.inn _ (hv1 _ e9.symm); omega)).trans hx4
        have := hg9.size
        exact ⟨by omega, by simp only [World.cell?, hx6]; rfl, by simp only [World.cell?, hx6]; rfl, by simp only [World.cell?, hx6]; rfl, by simp only [World.cell?, hx6]; rfl⟩
      have HBY : Hid (Calls Try.prog 17 #[.slice e.a e.d.length e.c] WB.drew fun r w' => ∃ v', r = .returned v' ∧ Ow W2.heap.size w' v' e.d ∧ Below WB.heap.size WB w') := by
        refine (bytes_any WB.heap.size _ e.d WB.drew (((hr2.below hBB).dat e hmem).sl (Nat.le_refl _)) (Nat.le_refl _) hd').mono ?_
        rintro r w' ⟨v', rfl, q1, q2⟩
        exact ⟨v', rfl, q1.base (show W2.heap.size ≤ WB.heap.size by omega), ⟨q2.os, q2.tape, q2.output, q2.size, q2.block⟩⟩
      obtain ⟨hxs, p1, p2, p3, p4⟩ := HBC.out WB (Below.refl _ _)
      obtain ⟨⟨-, yB1, yB2, -⟩, -⟩ := cells4 ((hBB.block b (by omega)).trans hb2)
      have hbwB : b < WB.heap.size := by omega
      obtain ⟨⟨-, y1, y2, -⟩, -⟩ := cells4 hb2
      have hbw2 : b < W2.heap.size := by omega
      have HF : Hid (∀ (w3 w6 : World) (n : Nat) (xa : Option Addr) (xc : Nat) (v' : Value), Below W2.heap.size W2 w3 → Ow W2.heap.size w3 (.slice xa e.d.length xc) e.d → w6.ownsRow 0 58 5 v' (es.length + 1) (mlCells es ++ mlCells [(⟨P.k + 1, e.f, e.t, xa, xc, e.d, e.s⟩ : Ml)]) → ((w3.drewN n).alloc (.cells #[.int .i64 (P.k + 1), .int .i64 e.f, .int .i64 e.t, .slice xa e.d.length xc, .bool e.s] 58)).grownBy w6 (Value.slice (some ⟨g, off, none⟩) P.E.length vn).ownBlock → (v'.ownBlock = (Value.slice (some ⟨g, off, none⟩) P.E.length vn).ownBlock ∨ v'.ownBlock = some ((w3.drewN n).alloc (.cells #[.int .i64 (P.k + 1), .int .i64 e.f, .int .i64 e.t, .slice xa e.d.length xc, .bool e.s] 58)).heap.size) → (w6.cell? ⟨b, 1, none⟩ = some (.slice (some ⟨g, off, none⟩) P.E.length vn) ∧ w6.cell? ⟨b, 2, none⟩ = some (.int .i64 (P.k + 1)) ∧ w6.frozen? ⟨b, 1, none⟩ = false ∧ b < w6.heap.size ∧ ∃ sa sc, v' = .slice sa (es.length + 1) sc) ∧ RTh N S w (w6.setCell ⟨b, 1, none⟩ v') b (P.add e.f e.t e.d e.s) C) := fun w3 w6 n xa xc v' hB3 hO3 q1 q2 q3 => h.added hN hm hv1 hv2 hv3 hr hd' hO2 hb2 hB3 hO3 q1 q2 q3
      have HRX : Hid (∀ w3 n xa xc, Below W2.heap.size W2 w3 → Ow W2.heap.size w3 (.slice xa e.d.length xc) e.d → ((w3.drewN n).alloc (.cells #[.int .i64 (P.k + 1), .int .i64 e.f, .int .i64 e.t, .slice xa e.d.length xc, .bool e.s] 58)).ownsRow 0 58 5 (.slice (some ⟨g, off, none⟩) P.E.length vn) es.length (mlCells es) ∧ MlsAt (w3.heap.size + 1) ((w3.drewN n).alloc (.cells #[.int .i64 (P.k + 1), .int .i64 e.f, .int .i64 e.t, .slice xa e.d.length xc, .bool e.s] 58)) (some ⟨w3.heap.size, 0, none⟩) [(⟨P.k + 1, e.f, e.t, xa, xc, e.d, e.s⟩ : Ml)] ∧ w3.cell? ⟨b, 1, none⟩ = some (.slice (some ⟨g, off, none⟩) P.E.length vn) ∧ w3.cell? ⟨b, 2, none⟩ = some (.int .i64 (P.k + 1)) ∧ b < w3.heap.size) := fun w3 n xa xc hB3 hO3 => by
        obtain ⟨⟨-, z1, z2, -⟩, -⟩ := cells4 ((hB3.block b (by omega)).trans hb2)
        exact ⟨World.ownsRow.alloc (hr2.below hB3).row _, mls_one 58 (w3.drewN n) ⟨P.k + 1, e.f, e.t, xa, xc, e.d, e.s⟩ w3.heap.size (hO3.sl (Nat.le_refl _)) (Nat.le_refl _), z1, z2, by have := hB3.size; omega⟩
      have hlen9 : es.length + 1 ≤ 1000000000 := by omega
      have j0 : (0 : Int) ≤ (k : Int) := by omega
      have j1 : (k : Int) < (P.E.length : Int) := by omega
      clear hm hel hv1 hv2 hv3 hO2 hb2 hW2 cf hr2 hat hat2 he hmem h ha hsy hd e5 i0 i1 hkl
      go_enter Try.func32, Try.ntmps32
      go_wp2_with fail
      refine HAT.out.mono ?_
      rintro r w1 ⟨rfl, hw⟩
      subst w1
      go_wp2_with fail
      rw [HW2.out]
      clear HW2 c0 c1 c2 c3 f2 HAT
      clear x0 x1 x2 x3 x4
      rw [HWB.out]
      clear HWB hWB e0 e1 e2 e3 e4 y1 y2 hbw2 hbx hBB
      have HKS : Hid (∀ (w6 : World) (v' : Value), (w6.cell? ⟨b, 2, none⟩ = some (.int .i64 (P.k + 1)) ∧ w6.cell? ⟨w.heap.size, 1, none⟩ = some (.int .i64 e.f) ∧ w6.cell? ⟨w.heap.size, 2, none⟩ = some (.int .i64 e.t) ∧ w6.cell? ⟨w.heap.size, 3, none⟩ = some (.slice e.a e.d.length e.c) ∧ w6.cell? ⟨w.heap.size, 4, none⟩ = some (.bool e.s)) → ((w6.setCell ⟨b, 1, none⟩ v').cell? ⟨b, 2, none⟩ = some (.int .i64 (P.k + 1)) ∧ (w6.setCell ⟨b, 1, none⟩ v').cell? ⟨w.heap.size, 1, none⟩ = some (.int .i64 e.f) ∧ (w6.setCell ⟨b, 1, none⟩ v').cell? ⟨w.heap.size, 2, none⟩ = some (.int .i64 e.t) ∧ (w6.setCell ⟨b, 1, none⟩ v').cell? ⟨w.heap.size, 3, none⟩ = some (.slice e.a e.d.length e.c) ∧ (w6.setCell ⟨b, 1, none⟩ v').cell? ⟨w.heap.size, 4, none⟩ = some (.bool e.s))) := fun w6 v' ⟨k1, k2, k3, k4, k5⟩ => by
        have hne : b ≠ w.heap.size := by omega
        exact ⟨(World.cell?_setCell_other _ _ _ _ (by simp)).trans k1, (World.cell?_setCell_other _ _ _ _ (by simp)).trans k2, (World.cell?_setCell_other _ _ _ _ (by simp)).trans k3, (World.cell?_setCell_other _ _ _ _ (by simp)).trans k4, (World.cell?_setCell_other _ _ _ _ (by simp)).trans k5⟩
      have HSS : Hid (∀ wx, Below WB.heap.size WB wx → wx.cell? ⟨b, 2, none⟩ = some (.int .i64 (P.k + 1)) ∧ wx.cell? ⟨w.heap.size, 1, none⟩ = some (.int .i64 e.f) ∧ wx.cell? ⟨w.heap.size, 2, none⟩ = some (.int .i64 e.t) ∧ wx.cell? ⟨w.heap.size, 3, none⟩ = some (.slice e.a e.d.length e.c) ∧ wx.cell? ⟨w.heap.size, 4, none⟩ = some (.bool e.s)) := fun wx hx => ⟨(hx.cell (p := ⟨b, 2, none⟩) hbwB).trans yB2, (HBC.out wx hx).2⟩
      refine wp_region_noPanic ?_
      refine wp_region_held_drew (S := fun wx => wx.cell? ⟨b, 2, none⟩ = some (.int .i64 (P.k + 1)) ∧ wx.cell? ⟨w.heap.size, 1, none⟩ = some (.int .i64 e.f) ∧ wx.cell? ⟨w.heap.size, 2, none⟩ = some (.int .i64 e.t) ∧ wx.cell? ⟨w.heap.size, 3, none⟩ = some (.slice e.a e.d.length e.c) ∧ wx.cell? ⟨w.heap.size, 4, none⟩ = some (.bool e.s)) (by kernel_rfl) ⟨yB2, p1, p2, p3, p4⟩ (fun hHeld => ?_)
      refine wpAnyH_take (i := 0) (oi := { dst := some 33, op := Op.move (Operand.tmp 0), type := 27, pos := "net.go:78", after := #[], guard := none }) (v := ?v0) rfl (by kernel_rfl) (by kernel_rfl) (by kernel_rfl) (fun _ _ _ h => h) (Or.inl ⟨by rfl, ?h0⟩) hHeld ?r0
      case h0 => intro w hSw; (try dsimp only at hSw); obtain ⟨s1, s2, s3, s4, s5⟩ := hSw; go_simp; try with_reducible rfl
      try simp only [Act.put, List.setIfInBounds_toArray, List.set_cons_zero, List.set_cons_succ]
      refine wpAnyH_take (i := 1) (oi := { dst := some 34, op := Op.move (Operand.tmp 0), type := 27, pos := "net.go:78", after := #[], guard := none }) (v := ?v1) rfl (by kernel_rfl) (by kernel_rfl) (by kernel_rfl) (fun _ _ _ h => h) (Or.inl ⟨by rfl, ?h1⟩) hHeld ?r1
      case h1 => intro w hSw; (try dsimp only at hSw); obtain ⟨s1, s2, s3, s4, s5⟩ := hSw; go_simp; try with_reducible rfl
      try simp only [Act.put, List.setIfInBounds_toArray, List.set_cons_zero, List.set_cons_succ]
      refine wpAnyH_take (i := 2) (oi := { dst := some 35, op := Op.nilCheck (Operand.tmp 34), type := 0, pos := "net.go:78", after := #[{ on := 1, ground := Ground.data }], guard := none }) (v := ?v2) rfl (by kernel_rfl) (by kernel_rfl) (by kernel_rfl) (fun _ _ _ h => h) (Or.inl ⟨by rfl, ?h2⟩) hHeld ?r2
      case h2 => intro w hSw; (try dsimp only at hSw); obtain ⟨s1, s2, s3, s4, s5⟩ := hSw; go_simp; try with_reducible rfl
      try simp only [Act.put, List.setIfInBounds_toArray, List.set_cons_zero, List.set_cons_succ]
      refine wpAnyH_take (i := 3) (oi := { dst := some 36, op := Op.fieldAddr 39 (Operand.tmp 35) 1, type := 0, pos := "net.go:78", after := #[{ on := 2, ground := Ground.data }], guard := none }) (v := ?v3) rfl (by kernel_rfl) (by kernel_rfl) (by kernel_rfl) (fun _ _ _ h => h) (Or.inl ⟨by rfl, ?h3⟩) hHeld ?r3
      case h3 => intro w hSw; (try dsimp only at hSw); obtain ⟨s1, s2, s3, s4, s5⟩ := hSw; go_simp; try with_reducible rfl
      try simp only [Act.put, List.setIfInBounds_toArray, List.set_cons_zero, List.set_cons_succ]
      refine wpAnyH_take (i := 5) (oi := { dst := some 38, op := Op.move (Operand.tmp 0), type := 27, pos := "net.go:78", after := #[], guard := none }) (v := ?v5) rfl (by kernel_rfl) (by kernel_rfl) (by kernel_rfl) (fun _ _ _ h => h) (Or.inl ⟨by rfl, ?h5⟩) hHeld ?r5
      case h5 => intro w hSw; (try dsimp only at hSw); obtain ⟨s1, s2, s3, s4, s5⟩ := hSw; go_simp; try with_reducible rfl
      try simp only [Act.put, List.setIfInBounds_toArray, List.set_cons_zero, List.set_cons_succ]
      refine wpAnyH_take (i := 6) (oi := { dst := some 39, op := Op.nilCheck (Operand.tmp 38), type := 0, pos := "net.go:78", after := #[{ on := 5, ground := Ground.data }], guard := none }) (v := ?v6) rfl (by kernel_rfl) (by kernel_rfl) (by kernel_rfl) (fun _ _ _ h => h) (Or.inl ⟨by rfl, ?h6⟩) hHeld ?r6
      case h6 => intro w hSw; (try dsimp only at hSw); obtain ⟨s1, s2, s3, s4, s5⟩ := hSw; go_simp; try with_reducible rfl
      try simp only [Act.put, List.setIfInBounds_toArray, List.set_cons_zero, List.set_cons_succ]
      refine wpAnyH_take (i := 7) (oi := { dst := some 40, op := Op.fieldAddr 39 (Operand.tmp 39) 2, type := 0, pos := "net.go:78", after := #[{ on := 6, ground := Ground.data }], guard := none }) (v := ?v7) rfl (by kernel_rfl) (by kernel_rfl) (by kernel_rfl) (fun _ _ _ h => h) (Or.inl ⟨by rfl, ?h7⟩) hHeld ?r7
      case h7 => intro w hSw; (try dsimp only at hSw); obtain ⟨s1, s2, s3, s4, s5⟩ := hSw; go_simp; try with_reducible rfl
      try simp only [Act.put, List.setIfInBounds_toArray, List.set_cons_zero, List.set_cons_succ]
      refine wpAnyH_take (i := 8) (oi := { dst := some 41, op := Op.load 3 (Operand.tmp 40), type := 3, pos := "net.go:78", after := #[{ on := 7, ground := Ground.data }], guard := none }) (v := ?v8) rfl (by kernel_rfl) (by kernel_rfl) (by kernel_rfl) (fun _ _ _ h => h) (Or.inl ⟨by rfl, ?h8⟩) hHeld ?r8
      case h8 => intro w hSw; (try dsimp only at hSw); obtain ⟨s1, s2, s3, s4, s5⟩ := hSw; go_simp; try with_reducible rfl
      try simp only [Act.put, List.setIfInBounds_toArray, List.set_cons_zero, List.set_cons_succ]
      refine wpAnyH_take (i := 9) (oi := { dst := some 42, op := Op.fieldAddr 58 (Operand.tmp 5) 1, type := 0, pos := "net.go:78", after := #[], guard := none }) (v := ?v9) rfl (by kernel_rfl) (by kernel_rfl) (by kernel_rfl) (fun _ _ _ h => h) (Or.inl ⟨by rfl, ?h9⟩) hHeld ?r9
      case h9 => intro w hSw; (try dsimp only at hSw); obtain ⟨s1, s2, s3, s4, s5⟩ := hSw; go_simp; try with_reducible rfl
      try simp only [Act.put, List.setIfInBounds_toArray, List.set_cons_zero, List.set_cons_succ]
      refine wpAnyH_take (i := 10) (oi := { dst := some 43, op := Op.load 3 (Operand.tmp 42), type := 3, pos := "net.go:78", after := #[{ on := 9, ground := Ground.data }], guard := none }) (v := ?v10) rfl (by kernel_rfl) (by kernel_rfl) (by kernel_rfl) (fun _ _ _ h => h) (Or.inl ⟨by rfl, ?h10⟩) hHeld ?r10
      case h10 => intro w hSw; (try dsimp only at hSw); obtain ⟨s1, s2, s3, s4, s5⟩ := hSw; go_simp; try with_reducible rfl
      try simp only [Act.put, List.setIfInBounds_toArray, List.set_cons_zero, List.set_cons_succ]
      refine wpAnyH_take (i := 11) (oi := { dst := some 44, op := Op.fieldAddr 58 (Operand.tmp 5) 2, type := 0, pos := "net.go:78", after := #[], guard := none }) (v := ?v11) rfl (by kernel_rfl) (by kernel_rfl) (by kernel_rfl) (fun _ _ _ h => h) (Or.inl ⟨by rfl, ?h11⟩) hHeld ?r11
      case h11 => intro w hSw; (try dsimp only at hSw); obtain ⟨s1, s2, s3, s4, s5⟩ := hSw; go_simp; try with_reducible rfl
      try simp only [Act.put, List.setIfInBounds_toArray, List.set_cons_zero, List.set_cons_succ]
      refine wpAnyH_take (i := 12) (oi := { dst := some 45, op := Op.load 3 (Operand.tmp 44), type := 3, pos := "net.go:78", after := #[{ on := 11, ground := Ground.data }], guard := none }) (v := ?v12) rfl (by kernel_rfl) (by kernel_rfl) (by kernel_rfl) (fun _ _ _ h => h) (Or.inl ⟨by rfl, ?h12⟩) hHeld ?r12
      case h12 => intro w hSw; (try dsimp only at hSw); obtain ⟨s1, s2, s3, s4, s5⟩ := hSw; go_simp; try with_reducible rfl
      try simp only [Act.put, List.setIfInBounds_toArray, List.set_cons_zero, List.set_cons_succ]
      refine wpAnyH_take (i := 13) (oi := { dst := some 46, op := Op.fieldAddr 58 (Operand.tmp 5) 3, type := 0, pos := "net.go:78", after := #[], guard := none }) (v := ?v13) rfl (by kernel_rfl) (by kernel_rfl) (by kernel_rfl) (fun _ _ _ h => h) (Or.inl ⟨by rfl, ?h13⟩) hHeld ?r13
      case h13 => intro w hSw; (try dsimp only at hSw); obtain ⟨s1, s2, s3, s4, s5⟩ := hSw; go_simp; try with_reducible rfl
      try simp only [Act.put, List.setIfInBounds_toArray, List.set_cons_zero, List.set_cons_succ]
      refine wpAnyH_take (i := 14) (oi := { dst := some 47, op := Op.load 30 (Operand.tmp 46), type := 30, pos := "net.go:78", after := #[{ on := 13, ground := Ground.data }], guard := none }) (v := ?v14) rfl (by kernel_rfl) (by kernel_rfl) (by kernel_rfl) (fun _ _ _ h => h) (Or.inl ⟨by rfl, ?h14⟩) hHeld ?r14
      case h14 => intro w hSw; (try dsimp only at hSw); obtain ⟨s1, s2, s3, s4, s5⟩ := hSw; go_simp; try with_reducible rfl
      try simp only [Act.put, List.setIfInBounds_toArray, List.set_cons_zero, List.set_cons_succ]
      refine wpAnyH_take (i := 16) (oi := { dst := some 49, op := Op.fieldAddr 58 (Operand.tmp 5) 4, type := 0, pos := "net.go:78", after := #[], guard := none }) (v := ?v16) rfl (by kernel_rfl) (by kernel_rfl) (by kernel_rfl) (fun _ _ _ h => h) (Or.inl ⟨by rfl, ?h16⟩) hHeld ?r16
      case h16 => intro w hSw; (try dsimp only at hSw); obtain ⟨s1, s2, s3, s4, s5⟩ := hSw; go_simp; try with_reducible rfl
      try simp only [Act.put, List.setIfInBounds_toArray, List.set_cons_zero, List.set_cons_succ]
      refine wpAnyH_take (i := 17) (oi := { dst := some 50, op := Op.load 4 (Operand.tmp 49), type := 4, pos := "net.go:78", after := #[{ on := 16, ground := Ground.data }], guard := none }) (v := ?v17) rfl (by kernel_rfl) (by kernel_rfl) (by kernel_rfl) (fun _ _ _ h => h) (Or.inl ⟨by rfl, ?h17⟩) hHeld ?r17
      case h17 => intro w hSw; (try dsimp only at hSw); obtain ⟨s1, s2, s3, s4, s5⟩ := hSw; go_simp; try with_reducible rfl
      try simp only [Act.put, List.setIfInBounds_toArray, List.set_cons_zero, List.set_cons_succ]
      refine wpAnyH_ready (rs := [4, 15]) (by kernel_rfl) (by simp) ?_
      refine AllReadyH.cons (o := { dst := some 37, op := Op.load 36 (Operand.tmp 36), type := 36, pos := "net.go:78", after := #[{ on := 3, ground := Ground.data }], guard := none }) rfl (fun KK hK => ?_) ?_
      · go_simp
        refine hK.out _ _ hHeld (fun hHeld => ?_)
        clear hK KK
        try simp only [Act.put, List.setIfInBounds_toArray, List.set_cons_zero, List.set_cons_succ]
        refine wpAnyH_ready (rs := [15]) (by kernel_rfl) (by simp) ?_
        refine AllReadyH.cons (o := { dst := some 48, op := Op.call { callee := Callee.value (Operand.func 17), args := #[Operand.tmp 47], argTypes := #[30] }, type := 30, pos := "net.go:78", after := #[{ on := 14, ground := Ground.data }], guard := none }) rfl (fun KK hK => ?_) ?_
        · go_simp
          go_wp2_with (go_at_call 17; refine HBY.out.mono ?_; rintro r w3 ⟨v3, rfl, hO3, hB3⟩; obtain ⟨xa, xc, hsh3, -, -⟩ := hO3.shape; subst hsh3; obtain ⟨hrow5, hsl5, z1, z2, z3⟩ := HRX.out w3 0 xa xc (HB3.out w3 hB3) hO3; obtain ⟨g0, g1, g2, g3, g4⟩ := HBC.out w3 hB3; have HO3 : Hid (Ow _ _ _ _) := hO3; have HB4 : Hid (Below WB.heap.size WB w3) := hB3; clear hO3 hB3)
          refine hK.out _ _ ⟨z2, g1, g2, g3, g4⟩ (fun hHeld => ?_)
          clear hK KK
          try simp only [Act.put, List.setIfInBounds_toArray, List.set_cons_zero, List.set_cons_succ]
          refine wpAnyH_take (i := 18) (oi := { dst := some 51, op := Op.build 58 #[(0, Operand.tmp 41), (1, Operand.tmp 43), (2, Operand.tmp 45), (3, Operand.tmp 48), (4, Operand.tmp 50)], type := 58, pos := "net.go:78", after := #[{ on := 8, ground := Ground.data }, { on := 10, ground := Ground.data }, { on := 12, ground := Ground.data }, { on := 15, ground := Ground.data }, { on := 17, ground := Ground.data }], guard := none }) (v := ?v18a) rfl (by kernel_rfl) (by kernel_rfl) (by kernel_rfl) (fun _ _ _ h => h) (Or.inl ⟨by rfl, ?h18a⟩) hHeld ?r18a
          case h18a => intro w hSw; (try dsimp only at hSw); obtain ⟨s1, s2, s3, s4, s5⟩ := hSw; go_simp; try with_reducible rfl
          try simp only [Act.put, List.setIfInBounds_toArray, List.set_cons_zero, List.set_cons_succ]
          refine wpAnyH_ready (rs := [19]) (by kernel_rfl) (by simp) ?_
          refine AllReadyH.cons (o := { dst := some 52, op := Op.buildSlice 36 1 #[(0, Operand.tmp 51)], type := 36, pos := "net.go:78", after := #[{ on := 18, ground := Ground.data }], guard := none }) rfl (fun KK hK => ?_) ?_
          · go_simp
            refine hK.out _ _ (HSS.out _ (HB4.out.alloc HB4.out.size _)) (fun hHeld => ?_)
            clear hK KK
            try simp only [Act.put, List.setIfInBounds_toArray, List.set_cons_zero, List.set_cons_succ]
            refine wpAnyH_ready (rs := [20]) (by kernel_rfl) (by simp) ?_
            refine AllReadyH.cons (o := { dst := some 53, op := Op.call { callee := Callee.builtin Builtin.append, args := #[Operand.tmp 37, Operand.tmp 52], argTypes := #[36, 36] }, type := 36, pos := "net.go:78", after := #[{ on := 4, ground := Ground.data }, { on := 19, ground := Ground.data }, { on := 15, ground := Ground.chain }], guard := none }) rfl (fun KK hK => ?_) ?_
            · refine step_append_mls tyR rfl (.tmp 37) (.tmp 52) rfl 0 (w3.heap.size + 1) (.slice (some ⟨g, off, none⟩) P.E.length vn) (some ⟨w3.heap.size, 0, none⟩) 1 es [(⟨P.k + 1, e.f, e.t, xa, xc, e.d, e.s⟩ : Ml)] (by simp [Act.eval]) hrow5 (by simp [Act.eval]) hsl5 hlen9 (Nat.zero_le _) ?_
              intro v' w6 q1 q2 q3
              obtain ⟨⟨n1, n2, nf, nz, sa, sc, hsh⟩, hT⟩ := HF.out w3 w6 0 xa xc v' (HB3.out w3 HB4.out) HO3.out q1 q2 q3
              obtain ⟨m0, m1, m2, m3, m4⟩ := HBG.out w3 w6 _ HB4.out q2
              have HT : Hid (RTh _ _ _ _ _ _ _) := hT
              clear q1 q2 q3 hT
              subst hsh
              refine hK.out _ _ ⟨n2, m1, m2, m3, m4⟩ (fun hHeld => ?_)
              clear hK KK
              try simp only [Act.put, List.setIfInBounds_toArray, List.set_cons_zero, List.set_cons_succ]
              refine wpAnyH_take (i := 21) (oi := { dst := some 54, op := Op.nilCheck (Operand.tmp 33), type := 0, pos := "net.go:78", after := #[{ on := 0, ground := Ground.data }, { on := 0, ground := Ground.phase }, { on := 1, ground := Ground.phase }, { on := 2, ground := Ground.phase }, { on := 3, ground := Ground.phase }, { on := 4, ground := Ground.phase }, { on := 5, ground := Ground.phase }, { on := 6, ground := Ground.phase }, { on := 7, ground := Ground.phase }, { on := 8, ground := Ground.phase }, { on := 9, ground := Ground.phase }, { on := 10, ground := Ground.phase }, { on := 11, ground := Ground.phase }, { on := 12, ground := Ground.phase }, { on := 13, ground := Ground.phase }, { on := 14, ground := Ground.phase }, { on := 15, ground := Ground.phase }, { on := 16, ground := Ground.phase }, { on := 17, ground := Ground.phase }, { on := 18, ground := Ground.phase }, { on := 19, ground := Ground.phase }, { on := 20, ground := Ground.phase }], guard := none }) (v := ?v21a) rfl (by kernel_rfl) (by kernel_rfl) (by kernel_rfl) (fun _ _ _ h => h) (Or.inl ⟨by rfl, ?h21a⟩) hHeld ?r21a
              case h21a => intro w hSw; (try dsimp only at hSw); obtain ⟨s1, s2, s3, s4, s5⟩ := hSw; go_simp; try with_reducible rfl
              try simp only [Act.put, List.setIfInBounds_toArray, List.set_cons_zero, List.set_cons_succ]
              refine wpAnyH_take (i := 22) (oi := { dst := some 55, op := Op.fieldAddr 39 (Operand.tmp 54) 1, type := 0, pos := "net.go:78", after := #[{ on := 21, ground := Ground.data }, { on := 0, ground := Ground.phase }, { on := 1, ground := Ground.phase }, { on := 2, ground := Ground.phase }, { on := 3, ground := Ground.phase }, { on := 4, ground := Ground.phase }, { on := 5, ground := Ground.phase }, { on := 6, ground := Ground.phase }, { on := 7, ground := Ground.phase }, { on := 8, ground := Ground.phase }, { on := 9, ground := Ground.phase }, { on := 10, ground := Ground.phase }, { on := 11, ground := Ground.phase }, { on := 12, ground := Ground.phase }, { on := 13, ground := Ground.phase }, { on := 14, ground := Ground.phase }, { on := 15, ground := Ground.phase }, { on := 16, ground := Ground.phase }, { on := 17, ground := Ground.phase }, { on := 18, ground := Ground.phase }, { on := 19, ground := Ground.phase }, { on := 20, ground := Ground.phase }], guard := none }) (v := ?v22a) rfl (by kernel_rfl) (by kernel_rfl) (by kernel_rfl) (fun _ _ _ h => h) (Or.inl ⟨by rfl, ?h22a⟩) hHeld ?r22a
              case h22a => intro w hSw; (try dsimp only at hSw); obtain ⟨s1, s2, s3, s4, s5⟩ := hSw; go_simp; try with_reducible rfl
              try simp only [Act.put, List.setIfInBounds_toArray, List.set_cons_zero, List.set_cons_succ]
              refine wpAnyH_ready (rs := [23]) (by kernel_rfl) (by simp) ?_
              refine AllReadyH.cons (o := { dst := none, op := Op.store 36 (Operand.tmp 55) (Operand.tmp 53), type := 0, pos := "net.go:78", after := #[{ on := 22, ground := Ground.data }, { on := 20, ground := Ground.data }, { on := 20, ground := Ground.chain }, { on := 0, ground := Ground.phase }, { on := 1, ground := Ground.phase }, { on := 2, ground := Ground.phase }, { on := 3, ground := Ground.phase }, { on := 4, ground := Ground.phase }, { on := 5, ground := Ground.phase }, { on := 6, ground := Ground.phase }, { on := 7, ground := Ground.phase }, { on := 8, ground := Ground.phase }, { on := 9, ground := Ground.phase }, { on := 10, ground := Ground.phase }, { on := 11, ground := Ground.phase }, { on := 12, ground := Ground.phase }, { on := 13, ground := Ground.phase }, { on := 14, ground := Ground.phase }, { on := 15, ground := Ground.phase }, { on := 16, ground := Ground.phase }, { on := 17, ground := Ground.phase }, { on := 18, ground := Ground.phase }, { on := 19, ground := Ground.phase }, { on := 20, ground := Ground.phase }], guard := none }) rfl (fun KK hK => ?_) ?_
              · go_simp
                refine hK.out _ _ (HKS.out _ _ ⟨n2, m1, m2, m3, m4⟩) (fun hHeld => ?_)
                clear hK KK
                try simp only [Act.put, List.setIfInBounds_toArray, List.set_cons_zero, List.set_cons_succ]
                refine wpAnyH_done (by kernel_rfl) ?_ _
                refine NoPanic.normal ?_
                go_wp2
                go_ret
                exact ⟨rfl, HT.out⟩
              exact AllReadyH.nil
            exact AllReadyH.nil
          exact AllReadyH.nil
        exact AllReadyH.nil
      refine AllReadyH.cons (o := { dst := some 48, op := Op.call { callee := Callee.value (Operand.func 17), args := #[Operand.tmp 47], argTypes := #[30] }, type := 30, pos := "net.go:78", after := #[{ on := 14, ground := Ground.data }], guard := none }) rfl (fun KK hK => ?_) ?_
      · go_simp
        go_wp2_with (go_at_call 17; refine HBY.out.mono ?_; rintro r w3 ⟨v3, rfl, hO3, hB3⟩; obtain ⟨xa, xc, hsh3, -, -⟩ := hO3.shape; subst hsh3; obtain ⟨hrow5, hsl5, z1, z2, z3⟩ := HRX.out w3 0 xa xc (HB3.out w3 hB3) hO3; obtain ⟨g0, g1, g2, g3, g4⟩ := HBC.out w3 hB3; have HO3 : Hid (Ow _ _ _ _) := hO3; have HB4 : Hid (Below WB.heap.size WB w3) := hB3; clear hO3 hB3)
        refine hK.out _ _ ⟨z2, g1, g2, g3, g4⟩ (fun hHeld => ?_)
        clear hK KK
        try simp only [Act.put, List.setIfInBounds_toArray, List.set_cons_zero, List.set_cons_succ]
        refine wpAnyH_take (i := 18) (oi := { dst := some 51, op := Op.build 58 #[(0, Operand.tmp 41), (1, Operand.tmp 43), (2, Operand.tmp 45), (3, Operand.tmp 48), (4, Operand.tmp 50)], type := 58, pos := "net.go:78", after := #[{ on := 8, ground := Ground.data }, { on := 10, ground := Ground.data }, { on := 12, ground := Ground.data }, { on := 15, ground := Ground.data }, { on := 17, ground := Ground.data }], guard := none }) (v := ?v18b) rfl (by kernel_rfl) (by kernel_rfl) (by kernel_rfl) (fun _ _ _ h => h) (Or.inl ⟨by rfl, ?h18b⟩) hHeld ?r18b
        case h18b => intro w hSw; (try dsimp only at hSw); obtain ⟨s1, s2, s3, s4, s5⟩ := hSw; go_simp; try with_reducible rfl
        try simp only [Act.put, List.setIfInBounds_toArray, List.set_cons_zero, List.set_cons_succ]
        refine wpAnyH_ready (rs := [4, 19]) (by kernel_rfl) (by simp) ?_
        refine AllReadyH.cons (o := { dst := some 37, op := Op.load 36 (Operand.tmp 36), type := 36, pos := "net.go:78", after := #[{ on := 3, ground := Ground.data }], guard := none }) rfl (fun KK hK => ?_) ?_
        · go_simp
          refine hK.out _ _ hHeld (fun hHeld => ?_)
          clear hK KK
          try simp only [Act.put, List.setIfInBounds_toArray, List.set_cons_zero, List.set_cons_succ]
          refine wpAnyH_ready (rs := [19]) (by kernel_rfl) (by simp) ?_
          refine AllReadyH.cons (o := { dst := some 52, op := Op.buildSlice 36 1 #[(0, Operand.tmp 51)], type := 36, pos := "net.go:78", after := #[{ on := 18, ground := Ground.data }], guard := none }) rfl (fun KK hK => ?_) ?_
          · go_simp
            refine hK.out _ _ (HSS.out _ (HB4.out.alloc HB4.out.size _)) (fun hHeld => ?_)
            clear hK KK
            try simp only [Act.put, List.setIfInBounds_toArray, List.set_cons_zero, List.set_cons_succ]
            refine wpAnyH_ready (rs := [20]) (by kernel_rfl) (by simp) ?_
            refine AllReadyH.cons (o := { dst := some 53, op := Op.call { callee := Callee.builtin Builtin.append, args := #[Operand.tmp 37, Operand.tmp 52], argTypes := #[36, 36] }, type := 36, pos := "net.go:78", after := #[{ on := 4, ground := Ground.data }, { on := 19, ground := Ground.data }, { on := 15, ground := Ground.chain }], guard := none }) rfl (fun KK hK => ?_) ?_
            · refine step_append_mls tyR rfl (.tmp 37) (.tmp 52) rfl 0 (w3.heap.size + 1) (.slice (some ⟨g, off, none⟩) P.E.length vn) (some ⟨w3.heap.size, 0, none⟩) 1 es [(⟨P.k + 1, e.f, e.t, xa, xc, e.d, e.s⟩ : Ml)] (by simp [Act.eval]) hrow5 (by simp [Act.eval]) hsl5 hlen9 (Nat.zero_le _) ?_
              intro v' w6 q1 q2 q3
              obtain ⟨⟨n1, n2, nf, nz, sa, sc, hsh⟩, hT⟩ := HF.out w3 w6 0 xa xc v' (HB3.out w3 HB4.out) HO3.out q1 q2 q3
              obtain ⟨m0, m1, m2, m3, m4⟩ := HBG.out w3 w6 _ HB4.out q2
              have HT : Hid (RTh _ _ _ _ _ _ _) := hT
              clear q1 q2 q3 hT
              subst hsh
              refine hK.out _ _ ⟨n2, m1, m2, m3, m4⟩ (fun hHeld => ?_)
              clear hK KK
              try simp only [Act.put, List.setIfInBounds_toArray, List.set_cons_zero, List.set_cons_succ]
              refine wpAnyH_take (i := 21) (oi := { dst := some 54, op := Op.nilCheck (Operand.tmp 33), type := 0, pos := "net.go:78", after := #[{ on := 0, ground := Ground.data }, { on := 0, ground := Ground.phase }, { on := 1, ground := Ground.phase }, { on := 2, ground := Ground.phase }, { on := 3, ground := Ground.phase }, { on := 4, ground := Ground.phase }, { on := 5, ground := Ground.phase }, { on := 6, ground := Ground.phase }, { on := 7, ground := Ground.phase }, { on := 8, ground := Ground.phase }, { on := 9, ground := Ground.phase }, { on := 10, ground := Ground.phase }, { on := 11, ground := Ground.phase }, { on := 12, ground := Ground.phase }, { on := 13, ground := Ground.phase }, { on := 14, ground := Ground.phase }, { on := 15, ground := Ground.phase }, { on := 16, ground := Ground.phase }, { on := 17, ground := Ground.phase }, { on := 18, ground := Ground.phase }, { on := 19, ground := Ground.phase }, { on := 20, ground := Ground.phase }], guard := none }) (v := ?v21b) rfl (by kernel_rfl) (by kernel_rfl) (by kernel_rfl) (fun _ _ _ h => h) (Or.inl ⟨by rfl, ?h21b⟩) hHeld ?r21b
              case h21b => intro w hSw; (try dsimp only at hSw); obtain ⟨s1, s2, s3, s4, s5⟩ := hSw; go_simp; try with_reducible rfl
              try simp only [Act.put, List.setIfInBounds_toArray, List.set_cons_zero, List.set_cons_succ]
              refine wpAnyH_take (i := 22) (oi := { dst := some 55, op := Op.fieldAddr 39 (Operand.tmp 54) 1, type := 0, pos := "net.go:78", after := #[{ on := 21, ground := Ground.data }, { on := 0, ground := Ground.phase }, { on := 1, ground := Ground.phase }, { on := 2, ground := Ground.phase }, { on := 3, ground := Ground.phase }, { on := 4, ground := Ground.phase }, { on := 5, ground := Ground.phase }, { on := 6, ground := Ground.phase }, { on := 7, ground := Ground.phase }, { on := 8, ground := Ground.phase }, { on := 9, ground := Ground.phase }, { on := 10, ground := Ground.phase }, { on := 11, ground := Ground.phase }, { on := 12, ground := Ground.phase }, { on := 13, ground := Ground.phase }, { on := 14, ground := Ground.phase }, { on := 15, ground := Ground.phase }, { on := 16, ground := Ground.phase }, { on := 17, ground := Ground.phase }, { on := 18, ground := Ground.phase }, { on := 19, ground := Ground.phase }, { on := 20, ground := Ground.phase }], guard := none }) (v := ?v22b) rfl (by kernel_rfl) (by kernel_rfl) (by kernel_rfl) (fun _ _ _ h => h) (Or.inl ⟨by rfl, ?h22b⟩) hHeld ?r22b
              case h22b => intro w hSw; (try dsimp only at hSw); obtain ⟨s1, s2, s3, s4, s5⟩ := hSw; go_simp; try with_reducible rfl
              try simp only [Act.put, List.setIfInBounds_toArray, List.set_cons_zero, List.set_cons_succ]
              refine wpAnyH_ready (rs := [23]) (by kernel_rfl) (by simp) ?_
              refine AllReadyH.cons (o := { dst := none, op := Op.store 36 (Operand.tmp 55) (Operand.tmp 53), type := 0, pos := "net.go:78", after := #[{ on := 22, ground := Ground.data }, { on := 20, ground := Ground.data }, { on := 20, ground := Ground.chain }, { on := 0, ground := Ground.phase }, { on := 1, ground := Ground.phase }, { on := 2, ground := Ground.phase }, { on := 3, ground := Ground.phase }, { on := 4, ground := Ground.phase }, { on := 5, ground := Ground.phase }, { on := 6, ground := Ground.phase }, { on := 7, ground := Ground.phase }, { on := 8, ground := Ground.phase }, { on := 9, ground := Ground.phase }, { on := 10, ground := Ground.phase }, { on := 11, ground := Ground.phase }, { on := 12, ground := Ground.phase }, { on := 13, ground := Ground.phase }, { on := 14, ground := Ground.phase }, { on := 15, ground := Ground.phase }, { on := 16, ground := Ground.phase }, { on := 17, ground := Ground.phase }, { on := 18, ground := Ground.phase }, { on := 19, ground := Ground.phase }, { on := 20, ground := Ground.phase }], guard := none }) rfl (fun KK hK => ?_) ?_
              · go_simp
                refine hK.out _ _ (HKS.out _ _ ⟨n2, m1, m2, m3, m4⟩) (fun hHeld => ?_)
                clear hK KK
                try simp only [Act.put, List.setIfInBounds_toArray, List.set_cons_zero, List.set_cons_succ]
                refine wpAnyH_done (by kernel_rfl) ?_ _
                refine NoPanic.normal ?_
                go_wp2
                go_ret
                exact ⟨rfl, HT.out⟩
              exact AllReadyH.nil
            exact AllReadyH.nil
          exact AllReadyH.nil
        refine AllReadyH.cons (o := { dst := some 52, op := Op.buildSlice 36 1 #[(0, Operand.tmp 51)], type := 36, pos := "net.go:78", after := #[{ on := 18, ground := Ground.data }], guard := none }) rfl (fun KK hK => ?_) ?_
        · go_simp
          refine hK.out _ _ (HSS.out _ (HB4.out.alloc HB4.out.size _)) (fun hHeld => ?_)
          clear hK KK
          try simp only [Act.put, List.setIfInBounds_toArray, List.set_cons_zero, List.set_cons_succ]
          refine wpAnyH_ready (rs := [4]) (by kernel_rfl) (by simp) ?_
          refine AllReadyH.cons (o := { dst := some 37, op := Op.load 36 (Operand.tmp 36), type := 36, pos := "net.go:78", after := #[{ on := 3, ground := Ground.data }], guard := none }) rfl (fun KK hK => ?_) ?_
          · go_simp
            refine hK.out _ _ hHeld (fun hHeld => ?_)
            clear hK KK
            try simp only [Act.put, List.setIfInBounds_toArray, List.set_cons_zero, List.set_cons_succ]
            refine wpAnyH_ready (rs := [20]) (by kernel_rfl) (by simp) ?_
            refine AllReadyH.cons (o := { dst := some 53, op := Op.call { callee := Callee.builtin Builtin.append, args := #[Operand.tmp 37, Operand.tmp 52], argTypes := #[36, 36] }, type := 36, pos := "net.go:78", after := #[{ on := 4, ground := Ground.data }, { on := 19, ground := Ground.data }, { on := 15, ground := Ground.chain }], guard := none }) rfl (fun KK hK => ?_) ?_
            · refine step_append_mls tyR rfl (.tmp 37) (.tmp 52) rfl 0 (w3.heap.size + 1) (.slice (some ⟨g, off, none⟩) P.E.length vn) (some ⟨w3.heap.size, 0, none⟩) 1 es [(⟨P.k + 1, e.f, e.t, xa, xc, e.d, e.s⟩ : Ml)] (by simp [Act.eval]) hrow5 (by simp [Act.eval]) hsl5 hlen9 (Nat.zero_le _) ?_
              intro v' w6 q1 q2 q3
              obtain ⟨⟨n1, n2, nf, nz, sa, sc, hsh⟩, hT⟩ := HF.out w3 w6 0 xa xc v' (HB3.out w3 HB4.out) HO3.out q1 q2 q3
              obtain ⟨m0, m1, m2, m3, m4⟩ := HBG.out w3 w6 _ HB4.out q2
              have HT : Hid (RTh _ _ _ _ _ _ _) := hT
              clear q1 q2 q3 hT
              subst hsh
              refine hK.out _ _ ⟨n2, m1, m2, m3, m4⟩ (fun hHeld => ?_)
              clear hK KK
              try simp only [Act.put, List.setIfInBounds_toArray, List.set_cons_zero, List.set_cons_succ]
              refine wpAnyH_take (i := 21) (oi := { dst := some 54, op := Op.nilCheck (Operand.tmp 33), type := 0, pos := "net.go:78", after := #[{ on := 0, ground := Ground.data }, { on := 0, ground := Ground.phase }, { on := 1, ground := Ground.phase }, { on := 2, ground := Ground.phase }, { on := 3, ground := Ground.phase }, { on := 4, ground := Ground.phase }, { on := 5, ground := Ground.phase }, { on := 6, ground := Ground.phase }, { on := 7, ground := Ground.phase }, { on := 8, ground := Ground.phase }, { on := 9, ground := Ground.phase }, { on := 10, ground := Ground.phase }, { on := 11, ground := Ground.phase }, { on := 12, ground := Ground.phase }, { on := 13, ground := Ground.phase }, { on := 14, ground := Ground.phase }, { on := 15, ground := Ground.phase }, { on := 16, ground := Ground.phase }, { on := 17, ground := Ground.phase }, { on := 18, ground := Ground.phase }, { on := 19, ground := Ground.phase }, { on := 20, ground := Ground.phase }], guard := none }) (v := ?v21c) rfl (by kernel_rfl) (by kernel_rfl) (by kernel_rfl) (fun _ _ _ h => h) (Or.inl ⟨by rfl, ?h21c⟩) hHeld ?r21c
              case h21c => intro w hSw; (try dsimp only at hSw); obtain ⟨s1, s2, s3, s4, s5⟩ := hSw; go_simp; try with_reducible rfl
              try simp only [Act.put, List.setIfInBounds_toArray, List.set_cons_zero, List.set_cons_succ]
              refine wpAnyH_take (i := 22) (oi := { dst := some 55, op := Op.fieldAddr 39 (Operand.tmp 54) 1, type := 0, pos := "net.go:78", after := #[{ on := 21, ground := Ground.data }, { on := 0, ground := Ground.phase }, { on := 1, ground := Ground.phase }, { on := 2, ground := Ground.phase }, { on := 3, ground := Ground.phase }, { on := 4, ground := Ground.phase }, { on := 5, ground := Ground.phase }, { on := 6, ground := Ground.phase }, { on := 7, ground := Ground.phase }, { on := 8, ground := Ground.phase }, { on := 9, ground := Ground.phase }, { on := 10, ground := Ground.phase }, { on := 11, ground := Ground.phase }, { on := 12, ground := Ground.phase }, { on := 13, ground := Ground.phase }, { on := 14, ground := Ground.phase }, { on := 15, ground := Ground.phase }, { on := 16, ground := Ground.phase }, { on := 17, ground := Ground.phase }, { on := 18, ground := Ground.phase }, { on := 19, ground := Ground.phase }, { on := 20, ground := Ground.phase }], guard := none }) (v := ?v22c) rfl (by kernel_rfl) (by kernel_rfl) (by kernel_rfl) (fun _ _ _ h => h) (Or.inl ⟨by rfl, ?h22c⟩) hHeld ?r22c
              case h22c => intro w hSw; (try dsimp only at hSw); obtain ⟨s1, s2, s3, s4, s5⟩ := hSw; go_simp; try with_reducible rfl
              try simp only [Act.put, List.setIfInBounds_toArray, List.set_cons_zero, List.set_cons_succ]
              refine wpAnyH_ready (rs := [23]) (by kernel_rfl) (by simp) ?_
              refine AllReadyH.cons (o := { dst := none, op := Op.store 36 (Operand.tmp 55) (Operand.tmp 53), type := 0, pos := "net.go:78", after := #[{ on := 22, ground := Ground.data }, { on := 20, ground := Ground.data }, { on := 20, ground := Ground.chain }, { on := 0, ground := Ground.phase }, { on := 1, ground := Ground.phase }, { on := 2, ground := Ground.phase }, { on := 3, ground := Ground.phase }, { on := 4, ground := Ground.phase }, { on := 5, ground := Ground.phase }, { on := 6, ground := Ground.phase }, { on := 7, ground := Ground.phase }, { on := 8, ground := Ground.phase }, { on := 9, ground := Ground.phase }, { on := 10, ground := Ground.phase }, { on := 11, ground := Ground.phase }, { on := 12, ground := Ground.phase }, { on := 13, ground := Ground.phase }, { on := 14, ground := Ground.phase }, { on := 15, ground := Ground.phase }, { on := 16, ground := Ground.phase }, { on := 17, ground := Ground.phase }, { on := 18, ground := Ground.phase }, { on := 19, ground := Ground.phase }, { on := 20, ground := Ground.phase }], guard := none }) rfl (fun KK hK => ?_) ?_
              · go_simp
                refine hK.out _ _ (HKS.out _ _ ⟨n2, m1, m2, m3, m4⟩) (fun hHeld => ?_)
                clear hK KK
                try simp only [Act.put, List.setIfInBounds_toArray, List.set_cons_zero, List.set_cons_succ]
                refine wpAnyH_done (by kernel_rfl) ?_ _
                refine NoPanic.normal ?_
                go_wp2
                go_ret
                exact ⟨rfl, HT.out⟩
              exact AllReadyH.nil
            exact AllReadyH.nil
          exact AllReadyH.nil
        exact AllReadyH.nil
      exact AllReadyH.nil
    · have HT : Hid (RTh N S w w b (P.add e.f e.t e.d e.s) C) := by
        have : P.add e.f e.t e.d e.s = P := by unfold PN.add; rw [if_neg hr]
        show RTh _ _ _ _ _ _ _
        rw [this]; exact h.th hN (Below.refl _ _)
      rw [show (true && decide (P.E.length < 2000)) = false by simp [hr]]
      have hr' : (2000 : Int) ≤ (P.E.length : Int) := by omega
      clear h hm hat hcs hel hv1 hv2 hv3 cf ha i0 i1 hkl hsy
      go_enter Try.func32, Try.ntmps32
      go_wp2_with fail
      refine HAT.out.mono ?_
      rintro r w1 ⟨rfl, hw⟩
      subst w1
      go_wp2
      go_ret
      exact ⟨rfl, HT.out⟩
  · have ha' : P.at i = false := by simpa using ha
    rw [if_neg ha]
    have HT : Hid (RTh N S w w b P C) := h.th hN (Below.refl _ _)
    rw [ha'] at HAT ⊢
    clear h ha ha'
    go_enter Try.func32, Try.ntmps32
    go_wp2_with fail
    refine HAT.out.mono ?_
    rintro r w1 ⟨rfl, hw⟩
    subst w1
    go_wp2
    go_ret
    exact ⟨by simp, HT.out⟩
end Go.Proofs.Ytefbfjlmhfmiiaa
