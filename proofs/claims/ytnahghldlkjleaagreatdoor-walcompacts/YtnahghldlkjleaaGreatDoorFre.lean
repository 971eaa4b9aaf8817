/-
  free: how many segments may go, and how many entries with them.
-/
import Derived.Test.YtnahghldlkjleaaGreatDoorSea
import Derived.Test.YtnahghldlkjleaaGreatDoorZa
import Derived.Test.YtnahghldlkjleaaGreatDoorXU
namespace Go.Proofs.YtnahghldlkjleaaGreatDoor
open Go.RowKit
set_option linter.unusedVariables false

def LP.upTo (J : LP) (sg : Nat) : Nat := J.S.countP (· ≤ sg)
/-- What is free, from a segment on. -/
def freeL (J : LP) (ix : Int) : List Sg → Nat → Nat → Nat × Nat
  | [], i, g => (i, g)
  | s :: q, i, g => if 0 < J.upTo s.n ∧ ix < eI (J.E.getD (J.upTo s.n - 1) nilEn) then (i, g) else freeL J ix q (i + 1) (J.upTo s.n)

set_option maxRecDepth 100000 in
set_option maxHeartbeats 1000000 in
theorem free_any {A : Nat → Prop} {w : World} {wb d : Nat} {X : WS} (h : Wl A w wb d X) (hn : X.sg ≠ []) (hfew : X.sg.length ≤ 1000000000) (hsn : ∀ s ∈ X.sg, s.n ≤ 99999999) (hs : X.J.S.Pairwise (· ≤ ·)) (ix : Int) :
    Calls Tryz.prog 96 #[.pointer (some ⟨wb, 0, none⟩), .int .i64 ix] w fun e w' => e = .returned (.tuple #[.int .i64 ((freeL X.J ix X.sg.dropLast 0 0).1 : Nat), .int .i64 ((freeL X.J ix X.sg.dropLast 0 0).2 : Nat)]) ∧ Below w.heap.size w w' := by
  obtain ⟨S, L, b, sv, k, h⟩ := h
  obtain ⟨n, hn⟩ : ∃ n, X.sg.length = n + 1 := ⟨X.sg.length - 1, by have := List.length_pos_iff.2 hn; omega⟩
  have hr := h.hs
  obtain ⟨g, cap, hsv, -, hg, -, -⟩ := hr.at0 (by omega)
  obtain ⟨ld, hld⟩ : ∃ ld, X.sg.dropLast = ld := ⟨_, rfl⟩
  have hll : ld.length = n := by rw [← hld, List.length_dropLast]; omega
  have HC : Hid (∀ i (hi : i < n) W, Below w.heap.size w W → (∃ bb : Nat, W.cell? ⟨g, i * 2 + 1, none⟩ = some (.int .i64 (bb : Int))) ∧ ∃ sn : Nat, W.cell? ⟨g, i * 2, none⟩ = some (.int .i64 (sn : Int)) ∧ sn ≤ 99999999 ∧ ∃ s, s.n = sn ∧ ld.drop i = s :: ld.drop (i + 1)) := fun i hi W hB => by
    obtain ⟨g', cap', he, hg', c0, c1⟩ := segCell hr (j := i) (by omega)
    rw [hsv] at he
    cases he
    refine ⟨⟨_, (hB.cell (p := ⟨g, i * 2 + 1, none⟩) hg).trans c1⟩, _, (hB.cell (p := ⟨g, i * 2, none⟩) hg).trans c0, hsn _ (List.getElem_mem _), _, rfl, ?_⟩
    rw [List.drop_eq_getElem_cons (by omega)]
    congr 1
    subst hld
    exact List.getElem_dropLast _
  obtain ⟨va, vc, sa, sc, es, mb, c, hb, ho, hes, hel, hvc, hvm, -⟩ := h.hj.cells
  have HW : Hid (∀ W, Below w.heap.size w W → W.cell? ⟨wb, 2, none⟩ = some (.slice (some ⟨g, 0, none⟩) (n + 1) cap) ∧ W.cell? ⟨wb, 3, none⟩ = some (.pointer (some ⟨b, 0, none⟩)) ∧ W.cell? ⟨b, 5, none⟩ = some (.slice va X.J.E.length vc)) := fun W hB => by
    have h1 := h.below hB
    rw [hsv, hn] at h1
    exact ⟨(cells5w h1.hw).1.2.2.1, (cells5w h1.hw).1.2.2.2.1, (cells8 (bel_heap hB hb)).1.2.2.2.2.2.1⟩
  have HE : Hid (∀ j, j < X.J.E.length → ∃ be off, va = some ⟨be, off, none⟩ ∧ ∀ W, Below w.heap.size w W → W.cell? ⟨be, off + j * 4 + 1, none⟩ = some (.int .i64 (eI (X.J.E.getD j nilEn)))) := fun j hj => by
    have hat := EntsOw.at (es := es) (by rw [hel]; exact ho)
    obtain ⟨be, off, hva, hbe, e0, e1, -⟩ := hat.at (i := j) (by omega)
    obtain ⟨-, s2, -⟩ := ent_says hes j
    rw [s2] at e1
    exact ⟨be, off, hva, fun W hB => (hB.cell (p := ⟨be, off + j * 4 + 1, none⟩) hbe).trans e1⟩
  have HU : Hid (∀ W sn, sn ≤ 99999999 → Below w.heap.size w W → Calls Tryz.prog 138 #[.pointer (some ⟨b, 0, none⟩), .int .i64 ((sn : Nat) : Int)] W fun e w' => e = .returned (.int .i64 (X.J.upTo sn : Nat)) ∧ ∃ q, w' = W.drewN q) := fun W sn hsn hB => upTo_any (h.hj.below hB) hs sn hsn
  have HUL : Hid (∀ sn, X.J.upTo sn ≤ X.J.E.length) := fun sn => by
    show _ ≤ _
    rw [← h.hj.ok.len]
    exact List.countP_le_length
  have hfe := h.hj.ok.few
  obtain ⟨a2, a3, a5⟩ := HW.out w (Below.refl _ _)
  have HLL : Hid (ld.length = n) := hll
  have hn9 : n ≤ 1000000000 := by omega
  have hcap : n ≤ cap := by
    obtain ⟨sa', sc', e1, h1, -⟩ := hr.shape
    rw [hsv] at e1
    simp only [Value.slice.injEq] at e1
    omega
  rw [hld]
  clear hr h hsv hg hld hll hs hsn hb ho hes hel hvc hvm hfew
  obtain ⟨rr, hrr⟩ : ∃ rr, freeL X.J ix ld 0 0 = rr := ⟨_, rfl⟩
  have HRR : Hid (freeL X.J ix ld 0 0 = rr) := hrr
  rw [hrr]
  clear hrr
  generalize X.J = J at *
  go_enter Tryz.func96, Tryz.ntmps96
  go_wp2_with fail
  go_quiet (fail)
  go_wp2_with fail
  clear a2 a3 a5
  go_loopw [6, 24] (fun v6 v24 wr => ∃ i gn : Nat, v24 = .int .i64 (i : Int) ∧ v6 = .int .i64 (gn : Int) ∧ i ≤ n ∧ Hid (freeL J ix (ld.drop i) i gn = rr) ∧ Hid (Below w.heap.size w wr)) (fun _ i _ => n - (intOf i).toNat)
  case atStart => exact ⟨0, 0, rfl, rfl, Nat.zero_le _, HRR.out, below_drewN (Below.refl _ _) _⟩
  case round =>
    obtain ⟨i, gn, rfl, rfl, hi, HL, HB⟩ := hrel
    by_cases hlt : i < n
    · obtain ⟨⟨bb, k1⟩, sn, k0, hsn, s, hsn2, hdr⟩ := HC.out i hlt wr HB.out
      obtain ⟨W1, hW1⟩ : ∃ W1, wr.alloc (.cells #[.int .i64 (sn : Int), .int .i64 (bb : Int)] 135) = W1 := ⟨_, rfl⟩
      have HW1 : Hid (_ = W1) := hW1
      have hBW : Below wr.heap.size wr W1 := by rw [← hW1]; exact (Below.refl _ wr).alloc (Nat.le_refl _) _
      have hB1 : Below w.heap.size w W1 := HB.out.trans (hBW.mono HB.out.size)
      have HB1 : Hid (Below w.heap.size w W1) := hB1
      have hxe : W1.heap[wr.heap.size]? = some (.cells #[.int .i64 (sn : Int), .int .i64 (bb : Int)] 135 (0, 0)) := by rw [← hW1]; exact heap_alloc_new wr _
      obtain ⟨⟨b0, b1⟩, -⟩ := cells2' hxe
      obtain ⟨a2, a3, a5⟩ := HW.out W1 hB1
      have HUQ : Hid (∀ q, Calls Tryz.prog 138 #[.pointer (some ⟨b, 0, none⟩), .int .i64 (sn : Int)] (W1.drewN q) fun e w' => e = .returned (.int .i64 (J.upTo sn : Nat)) ∧ ∃ n, w' = (W1.drewN q).drewN n) := fun q => HU.out _ sn hsn (below_drewN hB1 q)
      have HUl : Hid (J.upTo sn ≤ J.E.length) := HUL.out sn
      have HSt : Hid (freeL J ix (s :: ld.drop (i + 1)) i gn = rr) := by rw [← hdr]; exact HL.out
      have HEE := HE
      obtain ⟨u, hu⟩ : ∃ u, J.upTo sn = u := ⟨_, rfl⟩
      rw [hu] at HUQ HUl
      have HST : Hid ((if 0 < u ∧ ix < eI (J.E.getD (u - 1) nilEn) then (i, gn) else freeL J ix (ld.drop (i + 1)) (i + 1) u) = rr) := by
        have h9 := HSt.out
        unfold freeL at h9
        rw [hsn2, hu] at h9
        exact h9
      clear HC HU HUL hsn HL HB HSt hdr hsn2 hu hxe hB1 hBW HW
      by_cases hc : 0 < u
      · obtain ⟨c', rfl⟩ : ∃ c', u = c' + 1 := ⟨u - 1, by omega⟩
        obtain ⟨be, off, rfl, hee⟩ := HE.out c' (by have := HUl.out; omega)
        have e1 := hee W1 HB1.out
        obtain ⟨ei, hei⟩ : ∃ ei, eI (J.E.getD c' nilEn) = ei := ⟨_, rfl⟩
        have HEi : Hid (eI (J.E.getD (c' + 1 - 1) nilEn) = ei) := hei
        rw [hei] at e1
        have hw4 : IntKind.i64.wrap (((c' + 1 : Nat) : Int) - 1) = (c' : Int) := by rw [IntKind.wrap_i64]; have := HUl.out; omega
        have hbd : c' < J.E.length := by have := HUl.out; omega
        clear hei hee HE HEE HUl hc
        by_cases hx : ix < ei
        · have HRES : Hid ((i, gn) = rr) := by
            have h9 := HST.out
            rw [if_pos ⟨by omega, by rw [HEi.out]; exact hx⟩] at h9
            exact h9
          clear HST
          go_upto_region 6 with fail
          try rw [HW1.out]
          clear hW1 k0 k1 HW1
          go_quiet ((go_at_call 138; exact Calls.quiet_of (HUQ.out _)))
          go_wp2_with fail
          go_ret2
          exact ⟨by rw [← HRES.out]; rfl, below_drewN HB1.out _⟩
        · have HRES : Hid (freeL J ix (ld.drop (i + 1)) (i + 1) (c' + 1) = rr) := by
            have h9 := HST.out
            rw [if_neg (fun h => hx (by have := h.2; rw [HEi.out] at this; exact this))] at h9
            exact h9
          clear HST
          go_upto_region 6 with fail
          try rw [HW1.out]
          clear hW1 k0 k1 HW1
          go_quiet ((go_at_call 138; exact Calls.quiet_of (HUQ.out _)))
          go_wp2_with fail
          exact ⟨⟨i + 1, c' + 1, by go_num, rfl, by omega, HRES, below_drewN HB1.out _⟩, by simp [intOf]; omega⟩
      · obtain rfl : u = 0 := by omega
        have HRES : Hid (freeL J ix (ld.drop (i + 1)) (i + 1) 0 = rr) := by
          have h9 := HST.out
          rw [if_neg (fun h => by have := h.1; omega)] at h9
          exact h9
        clear HST hc HE HEE HUl
        go_upto_region 6 with fail
        try rw [HW1.out]
        clear hW1 k0 k1 HW1
        go_quiet ((go_at_call 138; exact Calls.quiet_of (HUQ.out _)))
        go_wp2_with fail
        exact ⟨⟨i + 1, 0, by go_num, rfl, by omega, HRES, below_drewN HB1.out _⟩, by simp [intOf]; omega⟩
    · have hie : i = n := by omega
      subst hie
      have HRES : Hid ((i, gn) = rr) := by
        have h9 := HL.out
        rw [List.drop_of_length_le (by rw [HLL.out]; omega)] at h9
        exact h9
      clear HC HW HE HU HUL HL
      go_wp2_with fail
      go_ret2
      exact ⟨by rw [← HRES.out]; rfl, HB.out⟩
end Go.Proofs.YtnahghldlkjleaaGreatDoor
