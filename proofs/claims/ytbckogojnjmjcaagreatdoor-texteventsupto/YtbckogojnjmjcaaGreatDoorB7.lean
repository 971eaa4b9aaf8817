/-
  An act without what the words of its line tell.
-/
import Derived.Test.YtbckogojnjmjcaaGreatDoorB6
import Derived.Test.YtbckogojnjmjcaaGreatDoorB5
namespace Go.Proofs.YtbckogojnjmjcaaGreatDoor
open Go.RowKit Go.Shelf

set_option maxRecDepth 100000 in
set_option maxHeartbeats 2000000 in
theorem rest_any (f : Fo) (hl5 : f.pl.length ≤ 5) (pb : Nat) (a : Ac) (w : World) (hP : PlAt w pb f.pl) : Calls Tryz.prog 76 #[.agg (f.cs pb), .agg a.cells] w fun e w' => e = .returned (.agg (f.rest a).cells) ∧ Below w.heap.size w w' := by
  obtain ⟨W3, hW3⟩ : ∃ W3, ((w.alloc (.cells (f.cs pb) 107)).alloc (.cells a.cells 34)).alloc (.cells ac0.cells 34) = W3 := ⟨_, rfl⟩
  have hB3 : Below w.heap.size w W3 := by rw [← hW3]; exact (((Below.refl _ _).alloc (Nat.le_refl _) _).alloc (by simp) _).alloc (by simp; omega) _
  have hs3 : W3.heap.size = w.heap.size + 3 := by rw [← hW3]; simp
  have hf3 : W3.heap[w.heap.size]? = some (.cells (f.cs pb) 107 (0, 0)) := by rw [← hW3, Below.heap_alloc _ _ _ (by simp; omega), Below.heap_alloc _ _ _ (by simp)]; exact heap_alloc_new w _
  have hA3 : AcAt W3 (w.heap.size + 1) a := by
    unfold AcAt
    rw [← hW3, Below.heap_alloc _ _ _ (by simp)]
    have := heap_alloc_new (w.alloc (.cells (f.cs pb) 107)) (.cells a.cells 34)
    rwa [World.size_alloc] at this
  have hR3 : W3.heap[w.heap.size + 2]? = some (.cells ac0.cells 34 (0, 0)) := by
    rw [← hW3]
    have := heap_alloc_new ((w.alloc (.cells (f.cs pb) 107)).alloc (.cells a.cells 34)) (.cells ac0.cells 34)
    rwa [World.size_alloc, World.size_alloc] at this
  have HW3 : Hid (_ = W3) := hW3
  have HB3 : Hid (Below w.heap.size w W3) := hB3
  have HF3 : Hid (W3.heap[w.heap.size]? = some (.cells (f.cs pb) 107 (0, 0))) := hf3
  have HA3 : Hid (AcAt W3 (w.heap.size + 1) a) := hA3
  have HR3 : Hid (W3.heap[w.heap.size + 2]? = some (.cells ac0.cells 34 (0, 0))) := hR3
  have HP3 : Hid (PlAt W3 pb f.pl) := hP.below hB3
  have hpb := hP.lt
  have HCL := clear_any
  clear hW3 hB3 hf3 hA3 hR3 hP
  unfold Fo.cs Ac.cells str ac0 at HW3
  unfold Fo.cs Ac.cells str
  generalize hnp : f.pl.length = np at *
  have HNP : Hid (f.pl.length = np) := hnp
  clear hnp
  go_enter Tryz.func76, Tryz.ntmps76
  go_wp2
  go_loopw [10] (fun i wr => ∃ (k : Nat) (ac : Ac), i = .int .i64 k ∧ k ≤ np ∧ Hid (AcAt wr (w.heap.size + 1) ac) ∧ Hid (clrs f.pl a = clrs (f.pl.drop k) ac) ∧ Hid (ac.kind = a.kind) ∧ Hid (Out (fun i => i = w.heap.size + 1) W3 wr)) (fun i _ => np - (intOf i).toNat)
  case atStart =>
    rw [HW3.out]
    exact ⟨0, a, rfl, by omega, HA3.out, by show _ = _; rw [List.drop_zero], by show _ = _; rfl, Out.refl _ _⟩
  case round =>
    obtain ⟨k, ac, rfl, hk, HAC, HCI, HKD, HOR⟩ := hrel
    have hzr : w.heap.size + 3 ≤ wr.heap.size := by have := HOR.out.size; omega
    have HXr : Hid (wr.heap[w.heap.size + 2]? = some (.cells ac0.cells 34 (0, 0))) := (HOR.out.block _ (by omega) (by omega)).trans HR3.out
    have HBW : Hid (Below w.heap.size w wr) := HB3.out.trans (HOR.out.below (by omega) (by intro i hi; omega))
    by_cases hlt : k < np
    · obtain ⟨p, hp⟩ : ∃ p, f.pl[k]? = some p := ⟨_, List.getElem?_eq_getElem (by rw [HNP.out]; exact hlt)⟩
      obtain ⟨x0, x1, x2, hx⟩ := p.parts
      have hpr : PlAt wr pb f.pl := HP3.out.out HOR.out (by omega)
      obtain ⟨p0, p1, p2⟩ := hpr.cells hp hx.fns
      have hs0 := hx.s0
      have hs1 := hx.s1
      have hs2 := hx.s2
      have hfa : p.fns.toArray = #[x0, x1, x2] := by rw [hx.fns]
      have HCA := fun o => HCL p ac (w.heap.size + 1) (wr.alloc o) (HAC.out.below ((Below.refl _ _).alloc (Nat.le_refl _) o))
      rw [hfa] at HCA
      have HST : Hid _ := clrs_step hp ac
      have HKP : Hid _ := clr_kind p ac
      have hpbr : pb < wr.heap.size := by omega
      have HOA : Hid (∀ o, Out (fun i => i = w.heap.size + 1) W3 (wr.alloc o)) := fun o => HOR.out.alloc o
      clear hp hx hpr hfa HCL
      go_wp2_with (go_at_call 99; refine (HCA _).mono ?_; rintro e w5 ⟨rfl, hA5, hO5⟩)
      go_roundw
      case rel => exact ⟨k + 1, _, by simp, by omega, hA5, HCI.out.trans HST.out, HKP.out.trans HKD.out, (HOA.out _).two hO5⟩
      case measure => simp [intOf]; omega
    · have : k = np := by omega
      subst this
      have HCE : Hid (clrs f.pl a = ac) := by
        show _ = _
        rw [HCI.out, List.drop_of_length_le (by rw [HNP.out]; omega)]
        rfl
      obtain ⟨a0, a1, a2, a3, a4, a5, a6, a7, a8⟩ := HAC.out.cells
      have af := HAC.out.frz
      have hf5 : wr.cell? ⟨w.heap.size, 5, none⟩ = some (.int .i64 f.m) := by
        have := (HOR.out.block w.heap.size (by omega) (by omega)).trans HF3.out
        simp only [World.cell?, this]
        rfl
      obtain ⟨⟨r0, r1, r2, r3, r4, r5, r6, r7, r8⟩, rf⟩ := cells9 HXr.out
      by_cases h8 : a.kind = 8
      · have hk8 : ac.kind = 8 := HKD.out.trans h8
        have HRE : Hid (f.rest a = { ac with m := f.m }) := by show _ = _; unfold Fo.rest; rw [if_pos h8, HCE.out]
        rw [hk8] at a0
        have HA8 : Hid (AcAt (wr.setCell ⟨w.heap.size + 1, 4, none⟩ (.int .i64 f.m)) (w.heap.size + 1) { ac with m := f.m }) := HAC.out.set 4 _ rfl
        have HX8 : Hid ((wr.setCell ⟨w.heap.size + 1, 4, none⟩ (.int .i64 f.m)).heap[w.heap.size + 2]? = some (.cells ac0.cells 34 (0, 0))) := (Below.heap_setCell _ _ _ _ (by show w.heap.size + 2 ≠ w.heap.size + 1; omega)).trans HXr.out
        have HO8 : Hid (Below w.heap.size w (wr.setCell ⟨w.heap.size + 1, 4, none⟩ (.int .i64 f.m))) := HBW.out.trans ((Out.put (X := fun i => i = w.heap.size + 1) (Out.refl _ wr) rfl).below (by omega) (by intro i hi; omega))
        go_wp2
        refine bodyPost_ret (results_A rfl _ _ (w.heap.size + 2) rfl (set9 HX8.out _ _ _ _ _ _ _ _ _)) rfl ?_
        rw [HRE.out]
        exact ⟨by simp only [hk8], HO8.out.trans ((out9 (X := fun i => i = w.heap.size + 2) rfl _ _ _ _ _ _ _ _ _).below (by rw [size_set]; omega) (by intro i hi; omega))⟩
      · have hk8 : (ac.kind == 8) = false := by rw [HKD.out]; simpa using h8
        have HRE : Hid (f.rest a = ac) := by show _ = _; unfold Fo.rest; rw [if_neg h8, HCE.out]
        go_wp2
        refine bodyPost_ret (results_A rfl _ _ (w.heap.size + 2) rfl (set9 HXr.out _ _ _ _ _ _ _ _ _)) rfl ?_
        rw [HRE.out]
        exact ⟨rfl, HBW.out.trans ((out9 (X := fun i => i = w.heap.size + 2) rfl _ _ _ _ _ _ _ _ _).below (by omega) (by intro i hi; omega))⟩
end Go.Proofs.YtbckogojnjmjcaaGreatDoor
