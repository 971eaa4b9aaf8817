/-
  Append, taken.
-/
import Derived.Test.YteekpfgjpdopmaaAp
namespace Go.Proofs.Yteekpfgjpdopmaa
open Go.RowKit
set_option linter.unusedVariables false

theorem frozen_below {N : Nat} {w w' : World} (hB : Below N w w') {b o : Nat} (hb : b < N) : w'.frozen? ⟨b, o, none⟩ = w.frozen? ⟨b, o, none⟩ := by
  simp only [World.frozen?, hB.block b hb]

theorem apE_zero {P : PL} {t k : Int} {n : Nat} (h : apE P t k n = 0) : P.li ≠ 4611686018427387904 ∧ P.E.length < 10000 ∧ ¬ t < P.lt ∧ ckEntry t (P.li + 1) k n = 0 := by
  unfold apE at h
  by_cases h1 : P.li = 4611686018427387904
  · rw [if_pos h1] at h; omega
  rw [if_neg h1] at h
  by_cases h2 : 10000 ≤ P.E.length
  · rw [if_pos h2] at h; omega
  rw [if_neg h2] at h
  by_cases h3 : t < P.lt
  · rw [if_pos h3] at h; omega
  rw [if_neg h3] at h
  exact ⟨h1, by omega, h3, h⟩

theorem row_shape {N n : Nat} {e : TypeId} {w : World} {v : Value} {xs : List Value} (h : w.ownsRow N e 4 v n xs) : ∃ sa sc, v = .slice sa n sc := by
  rcases h.2 with ⟨hv, h0⟩ | ⟨g, cap, cur, hv, r⟩
  · rw [h0]; exact ⟨_, _, hv⟩
  · exact ⟨_, _, hv⟩

set_option maxRecDepth 100000 in
set_option maxHeartbeats 4000000 in
/-- Append, taken. -/
theorem Append_ok {N : Nat} {S : Nat → Prop} {w : World} {b : Nat} {P : PL} (h : Lg N S w b P) (hN : N ≤ w.heap.size) (t k : Int) (a : Option Addr) (d : List UInt8) (cap M : Nat) (hs : Sl M w (.slice a d.length cap) d) (hM : M ≤ w.heap.size) (he : apE P t k d.length = 0) :
    Calls Try.prog 19 #[.pointer (some ⟨b, 0, none⟩), .int .i64 t, .int .i64 k, .slice a d.length cap] w fun e w' => e = .returned (.tuple #[.int .i64 (P.li + 1), .int .i64 0]) ∧ LTh N S w w' b (apP P t k d) := by
  obtain ⟨z1, z2, z3, z4⟩ := apE_zero he
  have HL : Hid (Calls _ _ _ _ _) := last_any h
  have hlim := h.ok.lim
  have hbw := h.inn _ h.Sb
  have hdl : d.length ≤ 4096 := (eCk_ok (e := (t, P.li + 1, k, d)) z4).2.2.2.2
  obtain ⟨va, vc, es, hb, ho, hsy, hl, hvc, hvm, hv1, hv2⟩ := h.cells
  -- behind the last append
  have HF : Hid (∀ w2 w3 w4 xa xc v', Below w.heap.size w w2 → Below w2.heap.size w2 w3 → Ow w2.heap.size w3 (.slice xa d.length xc) d → w4.ownsRow 0 40 4 v' (es.length + 1) (entCells es ++ entCells [⟨t, P.li + 1, k, xa, xc, d⟩]) → (w3.alloc (.cells #[.int .i64 t, .int .i64 (P.li + 1), .int .i64 k, .slice xa d.length xc] 40)).grownBy w4 (Value.slice va P.E.length vc).ownBlock → (v'.ownBlock = (Value.slice va P.E.length vc).ownBlock ∨ v'.ownBlock = some (w3.alloc (.cells #[.int .i64 t, .int .i64 (P.li + 1), .int .i64 k, .slice xa d.length xc] 40)).heap.size) → (w4.cell? ⟨b, 2, none⟩ = some (.slice va P.E.length vc) ∧ w4.frozen? ⟨b, 2, none⟩ = false ∧ (∀ j, w.heap.size ≤ j → j < w2.heap.size → w4.heap[j]? = w2.heap[j]?) ∧ w2.heap.size ≤ w4.heap.size) ∧ LTh N S w (w4.setCell ⟨b, 2, none⟩ v') b (apP P t k d)) := fun w2 w3 w4 xa xc v' hB2 hB3 hO3 hr4 hg4 hv4 => by
    have hB23 : Below w.heap.size w w3 := hB2.trans (hB3.mono hB2.size)
    have hBA : Below w.heap.size w (w3.alloc (.cells #[.int .i64 t, .int .i64 (P.li + 1), .int .i64 k, .slice xa d.length xc] 40)) := hB23.alloc hB23.size _
    have hoA := ho.below hBA
    have hbA : (w3.alloc (.cells #[.int .i64 t, .int .i64 (P.li + 1), .int .i64 k, .slice xa d.length xc] 40)).heap[b]? = _ := (hBA.block b hbw).trans hb
    have hne : (Value.slice va P.E.length vc).ownBlock ≠ some b := ho.not_at hb (by decide)
    have hbAw := Nat.lt_of_lt_of_le hbw hBA.size
    have hb4 := (hg4.block b hbAw (fun e => hne e.symm)).trans hbA
    have hO4 : Out (fun i => (Value.slice va P.E.length vc).ownBlock = some i) w w4 := (Out.of_below hBA).trans (Out.grown hg4 (X := fun i => (Value.slice va P.E.length vc).ownBlock = some i) (fun j hj => hj)) (fun i hi _ => hi)
    have hO4S : Out S w w4 := hO4.mono (fun i hi => hv1 i hi)
    have hoX : Ow 0 (w3.alloc (.cells #[.int .i64 t, .int .i64 (P.li + 1), .int .i64 k, .slice xa d.length xc] 40)) (.slice xa d.length xc) d := (hO3.base (Nat.zero_le _)).alloc _
    have ho4 : EntsOw 0 w4 v' (es ++ [⟨t, P.li + 1, k, xa, xc, d⟩]) := hoA.app (fun e he => by obtain rfl := List.mem_singleton.1 he; exact hoX) (by simpa using hr4) hg4
    have hne4 : v'.ownBlock ≠ some b := ho4.not_at hb4 (by decide)
    obtain ⟨⟨q0, q1, q2, q3, q4, q5, q6, q7⟩, qf⟩ := cells8 hb4
    refine ⟨⟨q2, qf 2, fun j h1 h2 => ?_, ?_⟩, ?_⟩
    · have h3 := hB3.size
      refine (hg4.block j (by simp; omega) (fun e => ?_)).trans ((heap_alloc_old _ _ (by omega)).trans (hB3.block j h2))
      have := h.inn j (hv1 j e.symm)
      omega
    · have h3 := hB3.size
      have h4 := hg4.size
      simp at h4
      omega
    refine h.turn hN (hO4S.put h.Sb) v' (es ++ [⟨t, P.li + 1, k, xa, xc, d⟩]) ?_ ?_ ?_ ?_ ?_ (apP_ok h.ok he)
    · exact heap_set hb4 2 v'
    · exact ho4.out (X := fun i => i = b) (Out.set rfl) (by rintro g hg rfl; exact hne4 hg) (fun e he g hg e' => by subst e'; exact (ho4.dat e he).not_at hb4 (by decide) hg)
    · rw [List.map_append, hsy]; rfl
    · intro g hg
      rcases hv4 with e | e
      · exact .inl (hv1 g (e ▸ hg))
      · right
        rw [e] at hg
        cases hg
        have := hBA.size
        omega
    · intro e he g hg
      rcases List.mem_append.1 he with he | he
      · exact .inl (hv2 e he g hg)
      · obtain rfl := List.mem_singleton.1 he
        right
        have h1 := (hO3.lt hg).1
        have h2 := hB2.size
        omega
  have HC : Hid (∀ w1, Below w.heap.size w w1 → (w1.cell? ⟨b, 2, none⟩ = some (.slice va P.E.length vc) ∧ b < w1.heap.size)) := fun w1 hB => ⟨(hB.cell (p := ⟨b, 2, none⟩) hbw).trans (cells8 hb).1.2.2.1, by have := hB.size; omega⟩
  have HROW : Hid (∀ w1, Below w.heap.size w w1 → w1.ownsRow 0 40 4 (.slice va P.E.length vc) es.length (entCells es)) := fun w1 hB => (ho.below hB).row
  have HSL : Hid (∀ w1, Below w.heap.size w w1 → Sl M w1 (.slice a d.length cap) d) := fun w1 hB => hs.below (hB.mono hM)
  have HB2 : Hid (∀ w1, Below w.heap.size w w1 → Below w.heap.size w ((w1.alloc (.cells #[.int .i64 P.li, .int .i64 P.lt] 76)).alloc (.cells #[.int .i64 t, .int .i64 (P.li + 1), .int .i64 k, .slice a d.length cap] 40)) ∧ ((w1.alloc (.cells #[.int .i64 P.li, .int .i64 P.lt] 76)).alloc (.cells #[.int .i64 t, .int .i64 (P.li + 1), .int .i64 k, .slice a d.length cap] 40)).heap[w1.heap.size + 1]? = some (.cells #[.int .i64 t, .int .i64 (P.li + 1), .int .i64 k, .slice a d.length cap] 40 (0, 0)) ∧ w.heap.size ≤ w1.heap.size) := fun w1 hB => ⟨(hB.alloc hB.size _).alloc (by have := hB.size; simp; omega) _, by
      have := heap_alloc_new (w1.alloc (.cells #[.int .i64 P.li, .int .i64 P.lt] 76)) (.cells #[.int .i64 t, .int .i64 (P.li + 1), .int .i64 k, .slice a d.length cap] 40)
      rw [World.size_alloc] at this
      exact this, hB.size⟩
  have HCK : Hid (∀ w2, Calls Try.prog 70 #[.agg #[], .agg #[.int .i64 t, .int .i64 (P.li + 1), .int .i64 k, .slice a d.length cap]] w2 fun e w' => e = .returned (.int .i64 0) ∧ Below w2.heap.size w2 w') := fun w2 => by have := ckEntry_any t (P.li + 1) k a d.length cap w2; rw [z4] at this; exact this
  have HES : Hid (es.length = P.E.length) := hl
  have z1' : (P.li == 4611686018427387904) = false := by simpa using z1
  have z2' : (P.E.length : Int) < 10000 := by omega
  clear h hb ho hsy hl hv1 hv2 hs he z1 z2 z4
  generalize P.li = li at *
  generalize P.lt = lt at *
  generalize P.E.length = m at *
  go_enter Try.func19, Try.ntmps19
  go_wp2_with (first
    | (go_at_call 69; refine HL.out.mono ?_; rintro r w1 ⟨rfl, hB1⟩; obtain ⟨hBB, hX, hzz⟩ := HB2.out w1 hB1; have HBB : Hid (Below _ _ _) := hBB; have HX : Hid (_ = _) := hX; obtain ⟨k2, hbw1⟩ := HC.out w1 hB1; clear hBB hX HL HB2))
  refine (HCK.out _).mono ?_
  rintro r w3 ⟨rfl, hB3⟩
  have HB3 : Hid (Below w.heap.size w w3) := HBB.out.trans (hB3.mono HBB.out.size)
  have hX3 : w3.heap[w1.heap.size + 1]? = some (.cells #[.int .i64 t, .int .i64 (li + 1), .int .i64 k, .slice a d.length cap] 40 (0, 0)) := (hB3.block (w1.heap.size + 1) (by simp)).trans HX.out
  have hz3 : w1.heap.size + 1 < w3.heap.size := by have := hB3.size; simp at this; omega
  clear hB3 HCK HX
  obtain ⟨⟨x0, x1, x2, x3⟩, -⟩ := cells4 hX3
  obtain ⟨k3, hbw3⟩ := HC.out w3 HB3.out
  have HX3 : Hid (w3.heap[w1.heap.size + 1]? = some (.cells #[.int .i64 t, .int .i64 (li + 1), .int .i64 k, .slice a d.length cap] 40 (0, 0))) := hX3
  have hown := own_any t (li + 1) k a d cap M w3.drew (HSL.out w3.drew HB3.out.drew) (by have := HB3.out.size; show M ≤ w3.heap.size; omega) (by omega)
  have HOW : Hid (∀ w4, Below w3.heap.size w3 w4 → (w4.cell? ⟨b, 2, none⟩ = some (.slice va m vc) ∧ w4.cell? ⟨w1.heap.size + 1, 0, none⟩ = some (.int .i64 t) ∧ w4.cell? ⟨w1.heap.size + 1, 1, none⟩ = some (.int .i64 (li + 1)) ∧ w4.cell? ⟨w1.heap.size + 1, 2, none⟩ = some (.int .i64 k) ∧ w4.cell? ⟨w1.heap.size + 1, 3, none⟩ = some (.slice a d.length cap))) := fun w4 h4 =>
    ⟨(h4.cell (p := ⟨b, 2, none⟩) hbw3).trans k3, (cells4 ((h4.block _ hz3).trans hX3)).1⟩
  clear hX3
  go_wp2_with fail
  have hlen1 : es.length + 1 ≤ 1000000000 := by rw [HES.out]; omega
  have HXF : Hid (∀ w5 : World, (∀ j, w.heap.size ≤ j → j < w3.heap.size → w5.heap[j]? = w3.heap[j]?) → w5.cell? ⟨w1.heap.size + 1, 1, none⟩ = some (.int .i64 (li + 1))) := fun w5 h5 => (cells4 ((h5 _ (by omega) hz3).trans HX3.out)).1.2.1
  go_region_law (first
    | (refine step_append_ents rfl (.tmp 48) (.tmp 51) rfl 0 (w4.heap.size + 1) (.slice va m vc) (some ⟨w4.heap.size, 0, none⟩) 1 es [(⟨t, li + 1, k, xa, xc, d⟩ : Ent)] (by simp [Act.eval]) hrow5 (by simp [Act.eval]) hsl5 hlen1 (Nat.zero_le _) ?_; intro v' w5 q1 q2 q3; obtain ⟨⟨n2, nf, nk, nz⟩, hT⟩ := HF.out w3 w4 w5 xa xc v' HB3.out hB4 hO4 q1 q2 q3; have nx := HXF.out w5 nk; have HT : Hid (LTh _ _ _ _ _ _) := hT; obtain ⟨sa, sc, hsh⟩ := row_shape q1; clear q1 q2 q3 hT; subst hsh)
    | (go_simp; go_at_call 71; refine hown.mono ?_; rintro e w4 ⟨xa, xc, rfl, hO4', hB4'⟩; have hB4 : Below w3.heap.size w3 w4 := ⟨hB4'.os, hB4'.tape, hB4'.output, hB4'.size, hB4'.block⟩; have hO4 : Ow w3.heap.size w4 (.slice xa d.length xc) d := hO4'; obtain ⟨n0, y0, y1, y2, y3⟩ := HOW.out w4 hB4; have hsl5 := ents_one w4 (⟨t, li + 1, k, xa, xc, d⟩ : Ent) w4.heap.size (Nat.le_refl _) (hO4.sl (Nat.le_refl _)) (Nat.le_refl _); have hrow5 := World.ownsRow.alloc (HROW.out w4 (HB3.out.trans (hB4.mono HB3.out.size))) (.cells #[.int .i64 t, .int .i64 (li + 1), .int .i64 k, .slice xa d.length xc] 40); have hbw4 : b < w4.heap.size := Nat.lt_of_lt_of_le hbw3 hB4.size; clear hB4' hO4')
    | fail)
  all_goals (go_wp2; go_returns; exact ⟨rfl, HT.out⟩)
end Go.Proofs.Yteekpfgjpdopmaa
