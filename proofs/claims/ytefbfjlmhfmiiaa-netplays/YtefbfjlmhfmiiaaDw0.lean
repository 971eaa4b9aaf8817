/-
  does: Send.
-/
import Derived.Test.YtefbfjlmhfmiiaaDt
import Derived.Test.YtefbfjlmhfmiiaaRc
namespace Go.Proofs.Ytefbfjlmhfmiiaa
open Go.RowKit
set_option linter.unusedVariables false

/-- The box of an operation. -/
def bx (w : World) (R : Nat) (kd A B : Int) (up : Bool) (v : Value) : Prop := w.heap[R]? = some (.cells #[.int .i64 kd, .int .i64 A, .int .i64 B, .bool up, v] 32 (0, 0))

set_option maxRecDepth 100000 in
set_option maxHeartbeats 8000000 in
theorem does0 {N M : Nat} {S T : Nat → Prop} {w : World} {b c : Nat} {P : PN} {C : List Pr} (h : Bo N S T w b c P C) (hN : N ≤ w.heap.size) (hk : P.k < 1000000000) (hC : C.length ≤ 100000) (A B : Int) (up : Bool) (da : Option Addr) (dc : Nat) (d : List UInt8) (hsl : Sl M w (.slice da d.length dc) d) (hM : M ≤ N) (hl : d.length ≤ 140737488351232) :
    Calls Try.prog 11 #[.pointer (some ⟨b, 0, none⟩), .pointer (some ⟨c, 0, none⟩), .agg #[.int .i64 0, .int .i64 A, .int .i64 B, .bool up, .slice da d.length dc]] w fun r w' => r = .returned (.bool true) ∧ ∃ S' T' C', Bo N S' T' w' b c (P.send A B d) C' ∧ Below N w w' ∧ C'.length ≤ C.length + 1 := by
  obtain ⟨W0, hW0⟩ : ∃ W0, w.alloc (.cells #[.int .i64 0, .int .i64 A, .int .i64 B, .bool up, .slice da d.length dc] 32) = W0 := ⟨_, rfl⟩
  have HW0 : Hid (w.alloc (.cells #[.int .i64 0, .int .i64 A, .int .i64 B, .bool up, .slice da d.length dc] 32) = W0) := hW0
  have hB : Below w.heap.size w W0 := by rw [← hW0]; exact (Below.refl _ w).alloc (Nat.le_refl _) _
  have hz0 : W0.heap.size = w.heap.size + 1 := by rw [← hW0]; simp
  have hbx : bx W0 w.heap.size 0 A B up (.slice da d.length dc) := by show W0.heap[_]? = _; rw [← hW0]; exact heap_alloc_new w _
  obtain ⟨⟨p0, p1, p2, p3, p4⟩, -⟩ := cells5 hbx
  have h0 := h.below hB
  have hN0 : N ≤ W0.heap.size := by omega
  have HSL : Hid (∀ V, Below N w V → Sl V.heap.size V (.slice da d.length dc) d) := fun V hV => (hsl.below (hV.mono hM)).mono (by have := hV.size; omega)
  have HC1 : Hid (Calls _ _ _ _ _) := lent_any W0.heap.size _ d W0 (HSL.out W0 (hB.mono hN)) (Nat.le_refl _) hl
  have HSD : Hid (∀ (w1 : World) (g cap : Nat), Below W0.heap.size W0 w1 → Ow W0.heap.size w1 (.slice (some ⟨g, 0, none⟩) (d.length + 1) cap) (d ++ [201]) → bx w1 w.heap.size 0 A B up (.slice da d.length dc) ∧ (W0.heap.size ≤ g ∧ g < w1.heap.size) ∧ Calls Try.prog 15 #[.pointer (some ⟨b, 0, none⟩), .int .i64 A, .int .i64 B, .slice (some ⟨g, 0, none⟩) d.length cap] w1.drew fun r w2 => r = .returned (.bool (P.snd A B)) ∧ bx w2 w.heap.size 0 A B up (.slice da d.length dc) ∧ Calls Try.prog 16 #[.pointer (some ⟨c, 0, none⟩), .int .i64 A, .int .i64 B, .slice da d.length dc] w2 fun r w3 => r = .returned (.bool (P.snd A B)) ∧ bx w3 w.heap.size 0 A B up (.slice da d.length dc) ∧ Ow W0.heap.size w3 (.slice (some ⟨g, 0, none⟩) (d.length + 1) cap) (d ++ [201]) ∧ Sl w3.heap.size w3 (.slice da d.length dc) d ∧ ∃ S' T', Bo N S' T' w3 b c (P.send A B d) C ∧ ¬ S' g ∧ ¬ T' g ∧ Below N w w3) := fun w1 g cap hB1 hO1 => by
    have hz1 := hB1.size
    have hg : W0.heap.size ≤ g ∧ g < w1.heap.size := hO1.lt (g := g) rfl
    have hB1d : Below W0.heap.size W0 w1.drew := below_drewN hB1 1
    have h1 := h0.below hB1d
    have hO1d : Ow W0.heap.size w1.drew (.slice (some ⟨g, 0, none⟩) (d.length + 1) cap) (d ++ [201]) := hO1.out (X := fun _ => False) (Out.drew w1 1) (fun _ _ q => q)
    have hN1 : N ≤ w1.drew.heap.size := by show N ≤ w1.heap.size; omega
    have hb1 : bx w1 w.heap.size 0 A B up (.slice da d.length dc) := (hB1.block w.heap.size (by omega)).trans hbx
    have hbw := h.nt.inn _ h.nt.Sb
    have hcw := h.rn.inn _ h.rn.Sb
    refine ⟨hb1, hg, (Send_any h1.nt hN1 A B _ d cap (by omega) (fun w' hO => ?_) hk).mono ?_⟩
    · have := hO1d.out hO (by intro k hk' e; have e1 : g = k := (by cases hk'; rfl); have e' : k = b := e; omega)
      exact this.lent (Nat.le_refl _)
    · rintro r w2 ⟨rfl, h2⟩
      have hz2 := h2.out.size
      have hz2' : w1.heap.size ≤ w2.heap.size := hz2
      have hb2 : bx w2 w.heap.size 0 A B up (.slice da d.length dc) := (h2.out.block w.heap.size (by show w.heap.size < w1.heap.size; omega) (fun hs => by have := h.nt.inn _ hs; omega)).trans hb1
      have hO2 : Ow W0.heap.size w2 (.slice (some ⟨g, 0, none⟩) (d.length + 1) cap) (d ++ [201]) := hO1d.out (X := S) h2.out (by intro k hk' hs; have e1 : g = k := (by cases hk'; rfl); have := h.nt.inn _ hs; omega)
      have hbel2 : Below N w w2 := (hB.mono hN).trans ((hB1d.mono (by omega)).trans (h2.bel hN1))
      refine ⟨rfl, hb2, (RSend_any (h1.mid h2) (by omega) A B da d dc (by omega) (fun w' hO => ?_) hk hC).mono ?_⟩
      · exact HSL.out w' (hbel2.trans (hO.below (by omega) (fun i hi => by rw [hi]; exact h.rn.fr _ h.rn.Sb)))
      · rintro r w3 ⟨rfl, h3⟩
        have hz3 := h3.out.size
        obtain ⟨h4, h5⟩ := h1.step hN1 h2 h3
        have hbel3 : Below N w w3 := (hB.mono hN).trans ((hB1d.mono (by omega)).trans h5)
        refine ⟨rfl, (h3.out.block w.heap.size (by omega) (fun hs => by have := h.rn.inn _ hs; omega)).trans hb2, hO2.out (X := T) h3.out (by intro k hk' hs; have e1 : g = k := (by cases hk'; rfl); have := h.rn.inn _ hs; omega), HSL.out w3 hbel3, _, _, h4, ?_, ?_, hbel3⟩
        · rintro (hs | ⟨hs, -⟩)
          · have := h.nt.inn _ hs; omega
          · have hs' : w1.heap.size ≤ g := hs; omega
        · rintro (hs | ⟨hs, -⟩)
          · have := h.rn.inn _ hs; omega
          · omega
  have HNg : Hid (N ≤ W0.heap.size) := hN0
  clear h h0 hB hbx hN0 hW0 hsl hM HSL
  obtain ⟨u, hu⟩ : ∃ u, P.snd A B = u := ⟨_, rfl⟩
  rw [hu] at HSD
  obtain ⟨P', hP'⟩ : ∃ P', P.send A B d = P' := ⟨_, rfl⟩
  rw [hP'] at HSD ⊢
  clear hu hP' hk hC
  go_enter Try.func11, Try.ntmps11
  go_wp2_with fail
  rw [HW0.out]
  refine HC1.out.mono ?_
  rintro r w1 ⟨g, cap, rfl, hO1, hB1⟩
  obtain ⟨hb1, hg, hsd⟩ := HSD.out w1 g cap hB1 hO1
  have HSD1 : Hid (Calls _ _ _ _ _) := hsd
  obtain ⟨⟨q0, q1, q2, q3, q4⟩, -⟩ := cells5 hb1
  obtain ⟨-, hcp, hcm⟩ := hO1.mark
  unfold maxLen at hcm
  have hXw1 : w.heap.size < w1.heap.size := by have := hB1.size; omega
  clear hsd HSD HC1 hB1 hO1 p0 p1 p2 p3 p4 hb1
  go_wp2_with fail
  go_region_held3 (fun wx => (wx.cell? ⟨w.heap.size, 1, none⟩ = some (.int .i64 A) ∧ wx.cell? ⟨w.heap.size, 2, none⟩ = some (.int .i64 B) ∧ wx.cell? ⟨w.heap.size, 4, none⟩ = some (.slice da d.length dc))) (first | exact ⟨t1, t2, t4⟩ | exact ⟨s1, s2, s4⟩ | go_keep)
    (first
      | (go_at_call 15; refine HSD1.out.mono ?_; rintro r w2 ⟨rfl, hb2, hc2⟩; obtain ⟨⟨s0, s1, s2, s3, s4⟩, -⟩ := cells5 hb2; have HC3 : Hid (Calls _ _ _ _ _) := hc2; clear hc2 hb2)
      | (go_at_call 16; refine HC3.out.mono ?_; rintro r w3 ⟨rfl, hb3, hrest⟩; obtain ⟨⟨t0, t1, t2, t3, t4⟩, -⟩ := cells5 hb3; have HRS : Hid (Ow W0.heap.size w3 (.slice (some ⟨g, 0, none⟩) (d.length + 1) cap) (d ++ [201]) ∧ Sl w3.heap.size w3 (.slice da d.length dc) d ∧ ∃ S' T', Bo N S' T' w3 b c P' C ∧ ¬ S' g ∧ ¬ T' g ∧ Below N w w3) := hrest; clear hrest hb3)
      | fail)
  obtain ⟨ho3, hs3, S', T', hbo3, hng, hnt, hbel3⟩ := HRS.out
  have HO3 : Hid (Ow W0.heap.size w3 (.slice (some ⟨g, 0, none⟩) (d.length + 1) cap) (d ++ [201])) := ho3
  have HBO3 : Hid (Bo N S' T' w3 b c P' C) := hbo3
  have HBL3 : Hid (Below N w w3) := hbel3
  have HNG : Hid (¬ S' g ∧ ¬ T' g) := ⟨hng, hnt⟩
  have HKP : Hid (Calls _ _ _ _ _) := kept_any W0.heap.size g cap _ d w3 hl ho3 hs3
  clear ho3 hs3 hbo3 hng hnt hbel3 HRS HC3 HSD1
  go_wp2_with fail
  refine HKP.out.mono ?_
  rintro r w4' ⟨rfl, n4, rfl⟩
  obtain ⟨w4, hw4⟩ : ∃ w4, w3.drewN n4 = w4 := ⟨_, rfl⟩
  have HBO4 : Hid (Bo N S' T' w4 b c P' C) := by show Bo _ _ _ _ _ _ _ _; rw [← hw4]; exact HBO3.out.off (X := fun _ => False) (Out.drew _ _) (fun _ _ q => q) (fun _ _ q => q)
  have HO4 : Hid (Ow W0.heap.size w4 (.slice (some ⟨g, 0, none⟩) (d.length + 1) cap) (d ++ [201])) := by show Ow _ _ _ _; rw [← hw4]; exact HO3.out.out (X := fun _ => False) (Out.drew _ _) (fun _ _ q => q)
  have HBL4 : Hid (Below N w w4) := by show Below _ _ _; rw [← hw4]; exact below_drewN HBL3.out n4
  rw [hw4]
  have HNg' : Hid (N ≤ g) := Nat.le_trans HNg.out hg.1
  clear HKP HO3 HBO3 HBL3 q0 q1 q2 q3 q4 t0 t1 t2 t3 t4 hw4
  go_wp2_with fail
  go_loopw [10] (fun iv wr => ∃ k : Nat, iv = .int .i64 (k : Int) ∧ k ≤ d.length ∧ (∃ l', l'.length = d.length + 1 ∧ Ow W0.heap.size wr (.slice (some ⟨g, 0, none⟩) l'.length cap) l') ∧ Bo N S' T' wr b c P' C ∧ Below N w wr) (fun iv _ => d.length - (intOf iv).toNat)
  case atStart => exact ⟨0, rfl, Nat.zero_le _, ⟨d ++ [201], by simp, by have := HO4.out; simpa using this⟩, HBO4.out, HBL4.out⟩
  case round =>
    obtain ⟨k, rfl, hk, ⟨l', hl', hO⟩, hDr, hBr⟩ := hrel
    have HO : Hid (Ow W0.heap.size wr (.slice (some ⟨g, 0, none⟩) l'.length cap) l') := hO
    have HDr : Hid (Bo N S' T' wr b c P' C) := hDr
    have HBr : Hid (Below N w wr) := hBr
    clear hO hDr hBr HBO4 HBL4 HO4
    by_cases hlt : k < d.length
    · have hlt' : (k : Int) < (d.length : Int) := by omega
      have hk0 : (0 : Int) ≤ (k : Int) := by omega
      obtain ⟨g', u', hea, c4, c5, hgl2⟩ := HO.out.can k (by omega)
      cases hea
      have HP1 : Hid (Ow W0.heap.size (wr.setCell ⟨g, k, none⟩ (.int .u8 33)) (.slice (some ⟨g, 0, none⟩) l'.length cap) (l'.set k 33)) := HO.out.store k 33
      have HP2 : Hid (Bo N S' T' (wr.setCell ⟨g, k, none⟩ (.int .u8 33)) b c P' C ∧ Below N w (wr.setCell ⟨g, k, none⟩ (.int .u8 33))) := ⟨HDr.out.off (X := fun i => i = g) (Out.set rfl) (fun i hi e => by cases e; exact HNG.out.1 hi) (fun i hi e => by cases e; exact HNG.out.2 hi), HBr.out.setCell (by exact HNg'.out) _⟩
      have HLL : Hid (l'.length = d.length + 1) := hl'
      clear HO HDr HBr hl'
      go_wp2
      exact ⟨⟨k + 1, by go_num, by omega, ⟨l'.set k 33, by simpa using HLL.out, by have := HP1.out; simpa using this⟩, HP2.out.1, HP2.out.2⟩, by simp [intOf]; omega⟩
    · have hlt' : ¬ (k : Int) < (d.length : Int) := by omega
      clear hl' HO
      go_wp2
      go_ret
      exact ⟨by simp, S', T', C, HDr.out, HBr.out, by omega⟩
end Go.Proofs.Ytefbfjlmhfmiiaa
