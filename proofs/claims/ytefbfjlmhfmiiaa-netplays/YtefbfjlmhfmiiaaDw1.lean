/-
  does: Take.
-/
import Derived.Test.YtefbfjlmhfmiiaaDw0
import Derived.Test.YtefbfjlmhfmiiaaRr
namespace Go.Proofs.Ytefbfjlmhfmiiaa
open Go.RowKit
set_option linter.unusedVariables false

/-- The box of a mail. -/
def mx (w : World) (R : Nat) (τ : TypeId) (n f t : Int) (v : Value) (s : Bool) : Prop := w.heap[R]? = some (.cells #[.int .i64 n, .int .i64 f, .int .i64 t, v, .bool s] τ (0, 0))

set_option maxRecDepth 100000 in
set_option maxHeartbeats 8000000 in
theorem does1 {N : Nat} {S T : Nat → Prop} {w : World} {b c : Nat} {P : PN} {C : List Pr} (h : Bo N S T w b c P C) (hN : N ≤ w.heap.size) (A B : Int) (up : Bool) (v : Value) :
    Calls Try.prog 11 #[.pointer (some ⟨b, 0, none⟩), .pointer (some ⟨c, 0, none⟩), .agg #[.int .i64 1, .int .i64 A, .int .i64 B, .bool up, v]] w fun r w' => r = .returned (.bool true) ∧ ∃ S' T' C', Bo N S' T' w' b c (P.take A) C' ∧ Below N w w' ∧ C'.length ≤ C.length + 1 := by
  obtain ⟨W0, hW0⟩ : ∃ W0, w.alloc (.cells #[.int .i64 1, .int .i64 A, .int .i64 B, .bool up, v] 32) = W0 := ⟨_, rfl⟩
  have HW0 : Hid (w.alloc (.cells #[.int .i64 1, .int .i64 A, .int .i64 B, .bool up, v] 32) = W0) := hW0
  have hB : Below w.heap.size w W0 := by rw [← hW0]; exact (Below.refl _ w).alloc (Nat.le_refl _) _
  have hz0 : W0.heap.size = w.heap.size + 1 := by rw [← hW0]; simp
  have hbx : bx W0 w.heap.size 1 A B up v := by show W0.heap[_]? = _; rw [← hW0]; exact heap_alloc_new w _
  obtain ⟨⟨p0, p1, p2, p3, p4⟩, -⟩ := cells5 hbx
  have h0 := h.below hB
  have hN0 : N ≤ W0.heap.size := by omega
  have HC1 : Hid (Calls _ _ _ _ _) := Take_any h0.nt hN0 A
  have HC2 : Hid (∀ (w2 W3 : World) (S' : Nat → Prop) (n1 f1 t1 : Int) (a1 : Option Addr) (c1 : Nat) (d1 : List UInt8) (s1 : Bool), w2.alloc (.cells #[.int .i64 n1, .int .i64 f1, .int .i64 t1, .slice a1 d1.length c1, .bool s1] 41) = W3 → (⟨n1, f1, t1, a1, c1, d1, s1⟩ : Ml).says = (if P.at A = true then P.E.getD A.toNat nilMa else nilMa) → Nt N S' w2 b (P.take A) → Out S W0 w2 → (∀ j, S' j → grew S W0 w2 j) → Ow 0 w2 (.slice a1 d1.length c1) d1 → (∀ g, (Value.slice a1 d1.length c1).ownBlock = some g → S g ∧ ¬ S' g) →
      (bx w2 w.heap.size 1 A B up v ∧ w.heap.size < w2.heap.size ∧ d1.length ≤ c1 ∧ c1 ≤ 9223372036854775807) ∧ Calls Try.prog 30 #[.pointer (some ⟨c, 0, none⟩), .int .i64 A] W3 fun r w4 => ∃ (a2 : Option Addr) (c2 : Nat), r = .returned (.tuple #[.agg #[.int .i64 n1, .int .i64 f1, .int .i64 t1, .slice a2 d1.length c2, .bool s1], .bool (P.at A)]) ∧ (d1.length ≤ c2 ∧ c2 ≤ 9223372036854775807) ∧ ∀ W5, w4.alloc (.cells #[.int .i64 n1, .int .i64 f1, .int .i64 t1, .slice a2 d1.length c2, .bool s1] 58) = W5 →
        mx w4 w2.heap.size 41 n1 f1 t1 (.slice a1 d1.length c1) s1 ∧ w2.heap.size < w4.heap.size ∧ Calls Try.prog 31 #[.agg #[.int .i64 n1, .int .i64 f1, .int .i64 t1, .slice a1 d1.length c1, .bool s1], .agg #[.int .i64 n1, .int .i64 f1, .int .i64 t1, .slice a2 d1.length c2, .bool s1]] W5 fun r w6 => r = .returned (.bool true) ∧ mx w6 w2.heap.size 41 n1 f1 t1 (.slice a1 d1.length c1) s1 ∧ w2.heap.size < w6.heap.size ∧ Ow 0 w6 (.slice a1 d1.length c1) d1 ∧ ∃ T', Bo N S' T' w6 b c (P.take A) C ∧ Below N w w6 ∧ ∀ g, (Value.slice a1 d1.length c1).ownBlock = some g → N ≤ g ∧ ¬ S' g ∧ ¬ T' g) := fun w2 W3 S' n1 f1 t1 a1 c1 d1 s1 hW3 hsay hnt hO2 hS' hOw hgS => by
    have hz2 := hO2.size
    have hB3 : Below w2.heap.size w2 W3 := by rw [← hW3]; exact (Below.refl _ _).alloc (Nat.le_refl _) _
    have hz3 : W3.heap.size = w2.heap.size + 1 := by rw [← hW3]; simp
    have hb2 : bx w2 w.heap.size 1 A B up v := (hO2.block w.heap.size (by omega) (fun hs => by have := h.nt.inn _ hs; omega)).trans hbx
    have hx3 : mx W3 w2.heap.size 41 n1 f1 t1 (.slice a1 d1.length c1) s1 := by show W3.heap[_]? = _; rw [← hW3]; exact heap_alloc_new w2 _
    have hr3 : Rn N T W3 c P C := (h0.rn.out hO2 (fun i hi hs => h.ap i hs hi)).below hB3
    obtain ⟨a9, c9, hsh, hcp, hcm⟩ := hOw.shape
    cases hsh
    have hcap : ∀ {x : Nat}, x ≤ maxLen → x ≤ 9223372036854775807 := fun hx => by unfold maxLen at hx; omega
    refine ⟨⟨hb2, by omega, hcp, hcap hcm⟩, (RTake_any hr3 (by omega) A).mono ?_⟩
    rintro r w4 hRR
    obtain ⟨e, rfl, hs4, hT4, hO4⟩ := hRR.uni
    obtain ⟨n2, f2, t2, a2, c2, d2, s2⟩ := e
    have hss := hsay.trans hs4.symm
    unfold Ml.says at hss
    simp only [Prod.mk.injEq] at hss
    obtain ⟨rfl, rfl, rfl, rfl, rfl⟩ := hss
    have hO4' : Ow 0 w4 (.slice a2 d1.length c2) d1 := hO4
    obtain ⟨a8, c8, hsh8, hcp8, hcm8⟩ := hO4'.shape
    cases hsh8
    refine ⟨a2, c2, rfl, ⟨hcp8, hcap hcm8⟩, fun W5 hW5 => ?_⟩
    have hz4 := hT4.out.size
    have hB5 : Below w4.heap.size w4 W5 := by rw [← hW5]; exact (Below.refl _ _).alloc (Nat.le_refl _) _
    have hz5 : W5.heap.size = w4.heap.size + 1 := by rw [← hW5]; simp
    have hx4 : mx w4 w2.heap.size 41 n1 f1 t1 (.slice a1 d1.length c1) s1 := (hT4.out.block _ (by omega) (fun hs => by have := h.rn.inn _ hs; omega)).trans hx3
    have hx5 : mx W5 w2.heap.size 41 n1 f1 t1 (.slice a1 d1.length c1) s1 := (hB5.block _ (by omega)).trans hx4
    have hOw5 : Ow 0 W5 (.slice a1 d1.length c1) d1 := (((hOw.below hB3 (Nat.le_refl _)).out hT4.out (fun g hg ht => h.ap g (hgS g hg).1 ht))).below hB5 (Nat.le_refl _)
    have hOf5 : Ow 0 W5 (.slice a2 d1.length c2) d1 := hO4'.below hB5 (Nat.le_refl _)
    refine ⟨hx4, by omega, (Mail_same (M := W5.heap.size) ⟨n1, f1, t1, a1, c1, d1, s1⟩ ⟨n1, f1, t1, a2, c2, d1, s1⟩ rfl (hOw5.sl (Nat.le_refl _)) (hOf5.sl (Nat.le_refl _)) (Nat.le_refl _)).mono ?_⟩
    rintro r w6 ⟨rfl, hB6⟩
    have hz6 := hB6.size
    have hn3 : Nt N S' W3 b (P.take A) := hnt.below hB3
    have hn4 : Nt N S' w4 b (P.take A) := hn3.out hT4.out (fun i hi ht => by
      rcases hS' i hi with hs | hs
      · exact h.ap i hs ht
      · have := h.rn.inn _ ht; have := hs.1; omega)
    have hbel : Below N w w6 := (hB.mono hN).trans ((hO2.below hN0 (fun i hi => h.nt.fr i hi)).trans ((hB3.mono (by omega)).trans ((hT4.bel (by omega)).trans ((hB5.mono (by omega)).trans (hB6.mono (by omega))))))
    refine ⟨rfl, (hB6.block _ (by omega)).trans hx5, by omega, hOw5.below hB6 (Nat.le_refl _), grew T W3 w4, ⟨(hn4.below hB5).below hB6, (hT4.q.below hB5).below hB6, fun i hi ht => ?_⟩, hbel, fun g hg => ⟨h.nt.fr g (hgS g hg).1, (hgS g hg).2, fun ht => ?_⟩⟩
    · rcases hS' i hi with hs | hs
      · rcases ht with ht | ht
        · exact h.ap i hs ht
        · have := h.nt.inn _ hs; have := ht.1; omega
      · rcases ht with ht | ht
        · have := h.rn.inn _ ht; have := hs.1; omega
        · have := hs.2; have := ht.1; omega
    · rcases ht with ht | ht
      · exact h.ap g (hgS g hg).1 ht
      · have := h.nt.inn _ (hgS g hg).1; have := ht.1; omega
  clear h h0 hB hbx hN0 hW0
  obtain ⟨u, hu⟩ : ∃ u, P.at A = u := ⟨_, rfl⟩
  go_enter Try.func11, Try.ntmps11
  go_wp2_with fail
  rw [HW0.out]
  refine HC1.out.mono ?_
  rintro r w2 hTR
  obtain ⟨e, S', rfl, q1, q2, q3, q4, q5, q6⟩ := hTR.uni
  obtain ⟨n1, f1, t1, a1, c1, d1, s1⟩ := e
  obtain ⟨W3, hW3⟩ : ∃ W3, w2.alloc (.cells #[.int .i64 n1, .int .i64 f1, .int .i64 t1, .slice a1 d1.length c1, .bool s1] 41) = W3 := ⟨_, rfl⟩
  obtain ⟨⟨hb3, hXw3, hcp1, hcm1⟩, hc2⟩ := HC2.out w2 W3 S' n1 f1 t1 a1 c1 d1 s1 hW3 q1 q2 q3 q4 q5 q6
  have HW3 : Hid (w2.alloc (.cells #[.int .i64 n1, .int .i64 f1, .int .i64 t1, .slice a1 d1.length c1, .bool s1] 41) = W3) := hW3
  have HC3 : Hid (Calls _ _ _ _ _) := hc2
  obtain ⟨⟨r0, r1, r2, r3, r4⟩, -⟩ := cells5 hb3
  rw [hu] at HC3 ⊢
  simp only
  clear hc2 hTR hW3 HC2 HC1 p0 p1 p2 p3 p4 hu q1 q2 q3 q4 q5 q6 hb3
  go_wp2_with fail
  rw [HW3.out]
  refine HC3.out.mono ?_
  rintro r w4 ⟨a2, c2, rfl, ⟨hcp2, hcm2⟩, hrest⟩
  obtain ⟨W5, hW5⟩ : ∃ W5, w4.alloc (.cells #[.int .i64 n1, .int .i64 f1, .int .i64 t1, .slice a2 d1.length c2, .bool s1] 58) = W5 := ⟨_, rfl⟩
  obtain ⟨hx4, hXw4, hc5⟩ := hrest W5 hW5
  have HW5 : Hid (w4.alloc (.cells #[.int .i64 n1, .int .i64 f1, .int .i64 t1, .slice a2 d1.length c2, .bool s1] 58) = W5) := hW5
  have HC5 : Hid (Calls _ _ _ _ _) := hc5
  obtain ⟨⟨x0, x1, x2, x3, x4⟩, -⟩ := cells5 hx4
  clear hrest hc5 hx4 hW5 HC3 r0 r1 r2 r3 r4
  go_wp2_with fail
  rw [HW5.out]
  refine HC5.out.mono ?_
  rintro r w6 ⟨rfl, hx6, hXw6, hO6, T', hbo6, hbel6, hgg⟩
  have HO6 : Hid (Ow 0 w6 (.slice a1 d1.length c1) d1) := hO6
  have HX6 : Hid (mx w6 w2.heap.size 41 n1 f1 t1 (.slice a1 d1.length c1) s1) := hx6
  have HBO6 : Hid (Bo N S' T' w6 b c (P.take A) C) := hbo6
  have HBL6 : Hid (Below N w w6) := hbel6
  have HGG : Hid (∀ g, (Value.slice a1 d1.length c1).ownBlock = some g → N ≤ g ∧ ¬ S' g ∧ ¬ T' g) := hgg
  clear hO6 hx6 hbo6 hbel6 hgg HC5 x0 x1 x2 x3 x4 HW5 HW3 HW0
  go_wp2_with fail
  go_loopw [16] (fun iv wr => ∃ k : Nat, iv = .int .i64 (k : Int) ∧ k ≤ d1.length ∧ (∃ l', l'.length = d1.length ∧ Ow 0 wr (.slice a1 l'.length c1) l') ∧ mx wr w2.heap.size 41 n1 f1 t1 (.slice a1 d1.length c1) s1 ∧ w2.heap.size < wr.heap.size ∧ Bo N S' T' wr b c (P.take A) C ∧ Below N w wr) (fun iv _ => d1.length - (intOf iv).toNat)
  case atStart => exact ⟨0, rfl, Nat.zero_le _, ⟨d1, rfl, HO6.out⟩, HX6.out, hXw6, HBO6.out, HBL6.out⟩
  case round =>
    obtain ⟨k, rfl, hk, ⟨l', hl', hO⟩, hX, hXw, hDr, hBr⟩ := hrel
    have HO : Hid (Ow 0 wr (.slice a1 l'.length c1) l') := hO
    have HX : Hid (mx wr w2.heap.size 41 n1 f1 t1 (.slice a1 d1.length c1) s1) := hX
    have HDr : Hid (Bo N S' T' wr b c (P.take A) C) := hDr
    have HBr : Hid (Below N w wr) := hBr
    obtain ⟨⟨x0, x1, x2, x3, x4⟩, -⟩ := cells5 hX
    clear hO hX hDr hBr HBO6 HBL6 HO6 HX6
    by_cases hlt : k < d1.length
    · have hlt' : (k : Int) < (d1.length : Int) := by omega
      have hk0 : (0 : Int) ≤ (k : Int) := by omega
      obtain ⟨g, u', hea, c4, c5, hgl2⟩ := HO.out.can k (by omega)
      subst hea
      obtain ⟨g1, g2, g3⟩ := HGG.out g rfl
      have hgx : w2.heap.size ≠ g := fun e => HO.out.not_at HX.out (by decide) (by rw [e]; rfl)
      have HP1 : Hid (Ow 0 (wr.setCell ⟨g, k, none⟩ (.int .u8 32)) (.slice (some ⟨g, 0, none⟩) l'.length c1) (l'.set k 32)) := HO.out.store k 32
      have HP2 : Hid (Bo N S' T' (wr.setCell ⟨g, k, none⟩ (.int .u8 32)) b c (P.take A) C ∧ Below N w (wr.setCell ⟨g, k, none⟩ (.int .u8 32)) ∧ mx (wr.setCell ⟨g, k, none⟩ (.int .u8 32)) w2.heap.size 41 n1 f1 t1 (.slice (some ⟨g, 0, none⟩) d1.length c1) s1 ∧ w2.heap.size < (wr.setCell ⟨g, k, none⟩ (.int .u8 32)).heap.size) := ⟨HDr.out.off (X := fun i => i = g) (Out.set rfl) (fun i hi e => by cases e; exact g2 hi) (fun i hi e => by cases e; exact g3 hi), HBr.out.setCell (by exact g1) _, (Below.heap_setCell _ _ _ _ hgx).trans HX.out, by rw [size_set]; exact hXw⟩
      have HLL : Hid (l'.length = d1.length) := hl'
      clear HO HDr HBr hl' HX g1 g2 g3 hgx
      go_wp2
      exact ⟨⟨k + 1, by go_num, by omega, ⟨l'.set k 32, by simpa using HLL.out, by have := HP1.out; simpa using this⟩, HP2.out.2.2.1, HP2.out.2.2.2, HP2.out.1, HP2.out.2.1⟩, by simp [intOf]; omega⟩
    · have hlt' : ¬ (k : Int) < (d1.length : Int) := by omega
      clear hl' HO HX
      go_wp2
      go_ret
      exact ⟨by simp, S', T', C, HDr.out, HBr.out, by omega⟩
end Go.Proofs.Ytefbfjlmhfmiiaa
