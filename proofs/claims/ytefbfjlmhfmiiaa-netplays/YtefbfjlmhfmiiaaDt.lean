/-
  does: Linked; Take that is dropped; Take.
-/
import Derived.Test.YtefbfjlmhfmiiaaDo3
import Derived.Test.YtefbfjlmhfmiiaaRd
namespace Go.Proofs.Ytefbfjlmhfmiiaa
open Go.RowKit
set_option linter.unusedVariables false

theorem Bo.off {N : Nat} {S T X : Nat → Prop} {w w' : World} {b c : Nat} {P : PN} {C : List Pr} (h : Bo N S T w b c P C) (hO : Out X w w') (hs : ∀ i, S i → ¬ X i) (ht : ∀ i, T i → ¬ X i) : Bo N S T w' b c P C := ⟨h.nt.out hO hs, h.rn.out hO ht, h.ap⟩

/-- Behind a deed of both, the document's first. -/
theorem Bo.step' {N : Nat} {S T : Nat → Prop} {w w1 w1' w2 : World} {b c : Nat} {P P' : PN} {C C' : List Pr} (h : Bo N S T w b c P C) (hN : N ≤ w.heap.size) (h2 : RTh N T w w1 c P' C') (hB : Below w1.heap.size w1 w1') (h1 : NTh N S w1' w2 b P') : Bo N (grew S w1' w2) (grew T w w1) w2 b c P' C' ∧ Below N w w2 := by
  have hz := h2.out.size
  have hz1 := hB.size
  have hz2 := h1.out.size
  refine ⟨⟨h1.q, (h2.q.below hB).out h1.out (fun i hi hs => ?_), fun i hi ht => ?_⟩, (h2.bel hN).trans ((hB.mono (by omega)).trans (h1.bel (by omega)))⟩
  · rcases hi with hi | hi
    · exact h.ap i hs hi
    · have := h.nt.inn i hs; have := hi.1; omega
  · rcases hi with hi | hi
    · rcases ht with ht | ht
      · exact h.ap i hi ht
      · have := h.nt.inn i hi; have := ht.1; omega
    · rcases ht with ht | ht
      · have := h.rn.inn i ht; have := hi.1; omega
      · have := ht.2; have := hi.1; omega

/-- What Take answers, and where the network lies then: the mail's data are no more of it. -/
theorem TakeR.uni {N : Nat} {S : Nat → Prop} {w w' : World} {b : Nat} {P : PN} {i : Int} {r : Ending} (h : TakeR N S w b P i r w') : ∃ (e : Ml) (S' : Nat → Prop), r = .returned (.tuple #[.agg #[.int .i64 e.n, .int .i64 e.f, .int .i64 e.t, .slice e.a e.d.length e.c, .bool e.s], .bool (P.at i)]) ∧ e.says = (if P.at i = true then P.E.getD i.toNat nilMa else nilMa) ∧ Nt N S' w' b (P.take i) ∧ Out S w w' ∧ (∀ j, S' j → grew S w w' j) ∧ Ow 0 w' e.x e.d ∧ ∀ g, e.x.ownBlock = some g → S g ∧ ¬ S' g := by
  rcases h with ⟨ha, rfl, hT⟩ | ⟨ha, e, rfl, hs, hT, hOw, hg, g0, vc, es', hM, -, -, hg0, hes, hap⟩
  · refine ⟨nilMl, grew S w w', ?_, ?_, hT.q, hT.out, fun _ h => h, Ow.nil _ _, fun g hg => ?_⟩
    · rw [ha]; rfl
    · rw [ha]; rfl
    · cases hg
  · refine ⟨e, fun j => grew S w w' j ∧ e.x.ownBlock ≠ some j, ?_, ?_, ⟨⟨_, es', hM, fun j hj => ⟨?_, fun hj' => ?_⟩, fun f hf j hj => ⟨.inl (hes f hf j hj), fun hj' => hap f hf j hj' hj⟩⟩, hT.q.ok, ⟨hT.q.Sb, hOw.not_at hM.blk (by decide)⟩, fun j hj => hT.q.inn j hj.1, fun j hj => hT.q.fr j hj.1⟩, hT.out, fun j hj => hj.1, hOw, fun g hg' => ⟨(hg g hg').1, fun hs' => hs'.2 hg'⟩⟩
    · rw [ha]
    · rw [ha]; exact hs
    · cases hj; exact .inl hg0
    · rcases hOw.2 with ⟨h1, -⟩ | ⟨g, cap, cur, h1, -, hb, -⟩
      · rw [h1] at hj'; cases hj'
      · rw [h1] at hj'
        cases hj'
        exact hM.row.not_at hb (by decide) hj

theorem RTakeR.uni {N : Nat} {S : Nat → Prop} {w w' : World} {b : Nat} {P : PN} {C : List Pr} {i : Int} {r : Ending} (h : RTakeR N S w b P C i r w') : ∃ (e : Ml), r = .returned (.tuple #[.agg #[.int .i64 e.n, .int .i64 e.f, .int .i64 e.t, .slice e.a e.d.length e.c, .bool e.s], .bool (P.at i)]) ∧ e.says = (if P.at i = true then P.E.getD i.toNat nilMa else nilMa) ∧ RTh N S w w' b (P.take i) C ∧ Ow 0 w' e.x e.d := by
  rcases h with ⟨ha, rfl, hT⟩ | ⟨ha, e, rfl, hs, hT, hOw, hg⟩
  · refine ⟨nilMl, ?_, ?_, hT, Ow.nil _ _⟩
    · rw [ha]; rfl
    · rw [ha]; rfl
  · refine ⟨e, ?_, ?_, hT, hOw⟩
    · rw [ha]
    · rw [ha]; exact hs

set_option maxRecDepth 100000 in
set_option maxHeartbeats 8000000 in
theorem does2 {N : Nat} {S T : Nat → Prop} {w : World} {b c : Nat} {P : PN} {C : List Pr} (h : Bo N S T w b c P C) (hN : N ≤ w.heap.size) (A B : Int) (up : Bool) (v : Value) :
    Calls Try.prog 11 #[.pointer (some ⟨b, 0, none⟩), .pointer (some ⟨c, 0, none⟩), .agg #[.int .i64 2, .int .i64 A, .int .i64 B, .bool up, v]] w fun r w' => r = .returned (.bool true) ∧ ∃ S' T' C', Bo N S' T' w' b c (P.take A) C' ∧ Below N w w' ∧ C'.length ≤ C.length + 1 := by
  obtain ⟨W0, hW0⟩ : ∃ W0, w.alloc (.cells #[.int .i64 2, .int .i64 A, .int .i64 B, .bool up, v] 32) = W0 := ⟨_, rfl⟩
  have HW0 : Hid (w.alloc (.cells #[.int .i64 2, .int .i64 A, .int .i64 B, .bool up, v] 32) = W0) := hW0
  have hB : Below w.heap.size w W0 := by rw [← hW0]; exact (Below.refl _ w).alloc (Nat.le_refl _) _
  have hz0 : W0.heap.size = w.heap.size + 1 := by rw [← hW0]; simp
  have hbx : W0.heap[w.heap.size]? = some (.cells #[.int .i64 2, .int .i64 A, .int .i64 B, .bool up, v] 32 (0, 0)) := by rw [← hW0]; exact heap_alloc_new w _
  obtain ⟨⟨p0, p1, p2, p3, p4⟩, -⟩ := cells5 hbx
  have h0 := h.below hB
  have hN0 : N ≤ W0.heap.size := by omega
  have HC1 : Hid (Calls _ _ _ _ _) := RTake_any h0.rn hN0 A
  have HC2 : Hid (∀ w1 W1, RTh N T W0 w1 c (P.take A) C → Below w1.heap.size w1 W1 → (w1.cell? ⟨w.heap.size, 1, none⟩ = some (.int .i64 A) ∧ w.heap.size < w1.heap.size) ∧ Calls Try.prog 19 #[.pointer (some ⟨b, 0, none⟩), .int .i64 A] W1 fun r w2 => r = .returned (.bool (P.at A)) ∧ ∃ S' T' C', Bo N S' T' w2 b c (P.take A) C' ∧ Below N w w2 ∧ C'.length ≤ C.length + 1) := fun w1 W1 h1 hB1 => by
    have hz1 := h1.out.size
    have hzB := hB1.size
    have e1 := (h1.out.block w.heap.size (by omega) (fun hs => by have := h.rn.inn _ hs; omega)).trans hbx
    refine ⟨⟨(cells5 e1).1.2.1, by omega⟩, (Drop_any ((h0.nt.out h1.out (fun i hs ht => h.ap i hs ht)).below hB1) (by omega) A).mono ?_⟩
    rintro r w2 ⟨rfl, h2⟩
    obtain ⟨h3, h4⟩ := h0.step' hN0 h1 hB1 h2
    exact ⟨rfl, _, _, _, h3, (hB.mono hN).trans h4, by omega⟩
  clear h h0 hB hbx hN0 hW0
  obtain ⟨u, hu⟩ : ∃ u, P.at A = u := ⟨_, rfl⟩
  go_enter Try.func11, Try.ntmps11
  go_wp2_with fail
  rw [HW0.out]
  refine HC1.out.mono ?_
  rintro r w1 hTR
  obtain ⟨e, rfl, -, hR1, -⟩ := hTR.uni
  obtain ⟨W1, hW1⟩ : ∃ W1, w1.alloc (.cells #[.int .i64 e.n, .int .i64 e.f, .int .i64 e.t, .slice e.a e.d.length e.c, .bool e.s] 58) = W1 := ⟨_, rfl⟩
  have HW1 : Hid (w1.alloc (.cells #[.int .i64 e.n, .int .i64 e.f, .int .i64 e.t, .slice e.a e.d.length e.c, .bool e.s] 58) = W1) := hW1
  obtain ⟨⟨q1, q2⟩, hc2⟩ := HC2.out w1 W1 hR1 (by rw [← hW1]; exact (Below.refl _ _).alloc (Nat.le_refl _) _)
  have HC3 : Hid (Calls _ _ _ _ _) := hc2
  rw [hu] at HC3 ⊢
  obtain ⟨n1, f1, t1, a1, c1, d1, s1⟩ := e
  simp only at HW1 ⊢
  clear hc2 hR1 hTR hW1 HC2 HC1 p0 p1 p2 p3 p4 hu
  go_wp2_with fail
  rw [HW1.out]
  refine HC3.out.mono ?_
  rintro r w2 ⟨rfl, hb⟩
  have HBO : Hid (∃ S' T' C', Bo N S' T' w2 b c (P.take A) C' ∧ Below N w w2 ∧ C'.length ≤ C.length + 1) := hb
  clear hb HC3
  go_wp2
  go_ret
  exact ⟨by simp, HBO.out⟩
end Go.Proofs.Ytefbfjlmhfmiiaa
