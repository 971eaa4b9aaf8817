/-
  One call of a reader, held against the document's: true, and both stand in one state again.
-/
import Derived.Test.YtndgfkgfonfliaaQtake
namespace Go.Proofs.Ytndgfkgfonfliaa
open Go.RowKit Go.Shelf

set_option maxRecDepth 100000 in
set_option maxHeartbeats 1000000 in
theorem qText_any (N Q : Nat) (v : Value) (l : List UInt8) (a e : Nat) (most : Int) (w : World) (h : Rrd N w Q v l a e) (hl : l.length ≤ 20000) (ha : a ≤ l.length) :
    Calls Try.prog 56 #[.pointer (some ⟨Q, 0, none⟩), .int .i64 most] w fun r w' =>
      r = .returned (.string ⟨(takeAt l a e most).1.toArray⟩) ∧ Rrd N w' Q v l (takeAt l a e most).2.1 (takeAt l a e most).2.2 ∧ w.grownBy w' (some Q) := by
  have hp := qBytes_any N Q v l a e most w h hl ha
  generalize takeAt l a e most = p at *
  obtain ⟨t, a', e'⟩ := p
  simp only at hp ⊢
  go_enter Try.func56, Try.ntmps56
  go_wp2_with (go_at_call 55; refine hp.mono ?_; rintro r w1 ⟨v1, rfl, hs1, h1, hg1⟩; have hcv := conv_sl hs1; obtain ⟨b, cap, rfl, -⟩ := id hs1)
  go_ret
  exact ⟨rfl, h1, hg1⟩

/-- A reader lies on, where another block is turned. -/
theorem Rdr.kept {N : Nat} {w w' : World} {R : Nat} {l : List UInt8} {a e k : Nat} (h : Rdr N w R l a e) (hg : w.grownBy w' (some k)) (hk : R < k ∨ ∃ cs t z, w.heap[k]? = some (.cells cs t z) ∧ t ≠ 5 ∧ t ≠ 83) : Rdr N w' R l a e := by
  have hlt := h.lt
  obtain ⟨hle, v, hR, hO, hvR⟩ := h
  have hne : k ≠ R := by
    rcases hk with hk | ⟨cs, t, z, h1, _, h3⟩
    · omega
    · intro e; subst e; rw [hR] at h1; simp at h1; exact h3 h1.2.1.symm
  refine ⟨hle, v, (hg.block R hlt (fun e => hne (by cases e; rfl))).trans hR, hO.kept hg (.inr ?_), hvR⟩
  rcases hk with hk | ⟨cs, t, z, h1, h2, _⟩
  · intro e; have := hvR k e; omega
  · exact hO.not_at h1 h2

theorem Rdr.at0 {N : Nat} {w : World} {R : Nat} {l : List UInt8} {a e : Nat} (h : Rdr N w R l a e) : ∃ cs z, w.heap[R]? = some (.cells cs 83 z) := by
  obtain ⟨_, v, hR, _⟩ := h; exact ⟨_, _, hR⟩

/-- Both readers in one state. -/
structure Both (N : Nat) (W : World) (R Q : Nat) (v : Value) (l : List UInt8) (a e : Nat) : Prop where
  r : Rdr N W R l a e
  q : Rrd N W Q v l a e
  le : a ≤ l.length

theorem takeAt_le (l : List UInt8) (a e : Nat) (most : Int) (ha : a ≤ l.length) : (takeAt l a e most).2.1 ≤ l.length := by
  have hb := pk_bd l a e
  unfold takeAt
  split
  · exact ha
  · split
    · exact ha
    · split
      · exact ha
      · have := hb.2.2.1 ha; simp only; omega

theorem boolAt_le (l : List UInt8) (a e : Nat) (ha : a ≤ l.length) : (boolAt l a e).2.1 ≤ l.length := by
  have hb := pk_bd l a e
  unfold boolAt
  split
  · exact ha
  · exact hb.2.2.1 ha

theorem Both.ne {N : Nat} {W : World} {R Q : Nat} {v : Value} {l : List UInt8} {a e a' e' : Nat} (h : Rdr N W R l a e) (hq : Rrd N W Q v l a' e') : R ≠ Q := by
  obtain ⟨cs, z, hR⟩ := h.at0
  intro e; subst e
  have := hq.at0
  rw [hR] at this; simp at this

/-- A call of the one, then of the other. -/
theorem Both.two {N : Nat} {w w1 w2 : World} {R Q : Nat} {v : Value} {l : List UInt8} {a e a' e' : Nat} (h : Both N w R Q v l a e) (h1 : Rdr N w1 R l a' e') (g1 : w.grownBy w1 (some R)) (h2 : Rrd N w2 Q v l a' e') (g2 : w1.grownBy w2 (some Q)) (ha : a' ≤ l.length) :
    Both N w2 R Q v l a' e' ∧ Below N w w2 := by
  have hq1 : Rrd N w1 Q v l a e := h.q.kept g1 (by simpa using Both.ne h.r h.q) (fun k e => by cases e; exact h.r.le)
  refine ⟨⟨h1.kept g2 (.inr ⟨_, _, _, hq1.at0, by decide, by decide⟩), h2, ha⟩, ?_⟩
  have hz := h.r.lt
  have hz' := h.r.le
  have hz1 := g1.size
  exact ((Below.refl N w).grown g1 (by omega) (fun k e => by cases e; exact h.r.le)).grown g2 (by omega) (fun k e => by cases e; exact h.q.le)

theorem Both.mid {N : Nat} {w w1 : World} {R Q : Nat} {v : Value} {l : List UInt8} {a e : Nat} (h : Both N w R Q v l a e) (g1 : w.grownBy w1 (some R)) : Rrd N w1 Q v l a e :=
  h.q.kept g1 (by simpa using Both.ne h.r h.q) (fun k e => by cases e; exact h.r.le)

theorem Both.alloc {N : Nat} {w : World} {R Q : Nat} {v : Value} {l : List UInt8} {a e : Nat} (h : Both N w R Q v l a e) (o : Obj) : Both N (w.alloc o) R Q v l a e := by
  have hb : Below w.heap.size w (w.alloc o) := (Below.refl _ w).alloc (Nat.le_refl _) o
  exact ⟨h.r.below hb (Nat.le_refl _), h.q.below hb (Nat.le_refl _), h.le⟩

theorem Both.drewN {N : Nat} {w : World} {R Q : Nat} {v : Value} {l : List UInt8} {a e : Nat} (h : Both N w R Q v l a e) (n : Nat) : Both N (w.drewN n) R Q v l a e := ⟨h.r.drewN n, h.q.drewN n, h.le⟩

/-- One byte of bytes of the call's own is written over. -/
theorem Ow.store {N : Nat} {w : World} {g cap : Nat} {l : List UInt8} (h : Ow N w (.slice (some ⟨g, 0, none⟩) l.length cap) l) (k : Nat) (x : UInt8) :
    Ow N (w.setCell ⟨g, k, none⟩ (encB x)) (.slice (some ⟨g, 0, none⟩) l.length cap) (l.set k x) := by
  rcases h.2 with ⟨h0, h1⟩ | ⟨g', cap', cur, hv, hg, hh, hc1, hc2, hc3, hc4⟩
  · cases h0
  · cases hv
    refine ⟨by simp, .inr ⟨g, cap, cur.set! k (encB x), by simp, hg, ?_, by simpa using hc1, hc2, by simpa using hc3, ?_⟩⟩
    · obtain ⟨hlt, he⟩ := Array.getElem?_eq_some_iff.1 hh
      show (w.heap.modify g _)[g]? = _
      rw [Array.getElem?_eq_getElem (by rw [Array.size_modify]; exact hlt), Array.getElem_modify_self, he]
      simp
    · simp only [Nat.mul_one, List.length_set] at hc4 ⊢
      rw [Array.set!_eq_setIfInBounds, Array.toList_setIfInBounds, List.take_set, hc4, List.map_set]

theorem Ow.can {N : Nat} {w : World} {g cap : Nat} {l : List UInt8} (h : Ow N w (.slice (some ⟨g, 0, none⟩) l.length cap) l) (k : Nat) (hk : k < l.length) : w.cell? ⟨g, k, none⟩ = some (encB (byteAt l k)) ∧ w.frozen? ⟨g, k, none⟩ = false ∧ N ≤ g := by
  obtain ⟨g', e, _, _, _, hc⟩ := h.at0 (by omega)
  cases e
  refine ⟨by have := hc k hk; rw [Nat.zero_add] at this; exact this, ?_, ?_⟩
  · rcases h.2 with ⟨h0, _⟩ | ⟨g', cap', cur, hv, hg, hh, _⟩
    · cases h0
    · cases hv; simp [World.frozen?, hh]
  · exact (World.ownsRow.lt h g rfl).1

theorem Both.set {N : Nat} {w : World} {R Q : Nat} {v : Value} {l : List UInt8} {a e : Nat} (h : Both N w R Q v l a e) (g k : Nat) (u : Value) (hR : R < g) (hQ : Q < g) : Both N (w.setCell ⟨g, k, none⟩ u) R Q v l a e :=
  ⟨h.r.kept (grown_set w g k u) (.inl hR), h.q.kept (grown_set w g k u) (by simp; omega) (fun k e => by cases e; have := h.q.le; omega), h.le⟩

set_option maxRecDepth 100000 in
set_option maxHeartbeats 4000000 in
theorem asked_any (N R Q : Nat) (v : Value) (l : List UInt8) (a e : Nat) (kind most : Int) (w : World) (h : Both N w R Q v l a e) (hl : l.length ≤ 20000) :
    Calls Try.prog 33 #[.pointer (some ⟨R, 0, none⟩), .pointer (some ⟨Q, 0, none⟩), .agg #[.int .i64 kind, .int .i64 most]] w fun r w' =>
      r = .returned (.bool true) ∧ ∃ a' e', Both N w' R Q v l a' e' ∧ Below N w w' := by
  have ha := h.le
  have hNw : N ≤ w.heap.size := by have := h.r.lt; have := h.r.le; omega
  have h1 := h.alloc (.cells #[.int .i64 kind, .int .i64 most] 64)
  have hB0 : Below N w (w.alloc (.cells #[.int .i64 kind, .int .i64 most] 64)) := (Below.refl N w).alloc hNw _
  have hll : l.length ≤ 1099511627776 := by omega
  by_cases q0 : kind = 0
  · subst q0
    go_enter Try.func33, Try.ntmps33
    go_wp2_with fail
    refine (rInt_any N R l a e _ h1.r hll ha).mono ?_
    rintro r w2 ⟨rfl, hr2, g2⟩
    have hq2 := h1.mid g2
    go_wp2_with fail
    refine (qInt_any N Q v l a e _ hq2 hl ha).mono ?_
    rintro r w3 ⟨rfl, hq3, g3⟩
    have hX := h1.two hr2 g2 hq3 g3 ((pk_bd l a e).2.2.1 ha)
    clear hr2 g2 hq2 hq3 g3
    go_wp2
    go_ret
    exact ⟨by simp, _, _, hX.1, hB0.trans hX.2⟩
  · have t0 : (kind == 0) = false := by rw [beq_eq_false_iff_ne]; exact q0
    clear q0
    by_cases q1 : kind = 1
    · subst q1
      go_enter Try.func33, Try.ntmps33
      go_wp2_with fail
      refine (rBool_any N R l a e _ h1.r hll ha).mono ?_
      rintro r w2 ⟨rfl, hr2, g2⟩
      have hq2 := h1.mid g2
      go_wp2_with fail
      refine (qBool_any N Q v l a e _ hq2 hl ha).mono ?_
      rintro r w3 ⟨rfl, hq3, g3⟩
      have hX := h1.two hr2 g2 hq3 g3 (boolAt_le l a e ha)
      clear hr2 g2 hq2 hq3 g3
      go_wp2
      go_ret
      exact ⟨by simp, _, _, hX.1, hB0.trans hX.2⟩
    · have t1 : (kind == 1) = false := by rw [beq_eq_false_iff_ne]; exact q1
      clear q1
      by_cases q2 : kind = 2
      · subst q2
        have hlen : (takeAt l a e most).1.length ≤ 20000 := by
          unfold takeAt
          split
          · simp
          · split
            · simp
            · split
              · simp
              · simp; omega
        have hle := takeAt_le l a e most ha
        have cR := rBytes_any N R l a e most _ h1.r hll ha
        have cQ := fun w2 (h : Rrd N w2 Q v l a e) => qBytes_any N Q v l a e most w2 h hl ha
        generalize takeAt l a e most = p at *
        obtain ⟨T, a', e'⟩ := p
        simp only at hlen hle cR cQ
        have CQ : Hid (∀ w2, Rrd N w2 Q v l a e → Calls Try.prog 55 #[.pointer (some ⟨Q, 0, none⟩), .int .i64 most] w2 fun r w' => ∃ u, r = .returned u ∧ Sl w'.heap.size w' u T ∧ Rrd N w' Q v l a' e' ∧ w2.grownBy w' (some Q)) := cQ
        clear cQ
        have hRl := h.r.lt
        have hQl := h.q.lt
        have hbx : (w.alloc (.cells #[.int .i64 2, .int .i64 most] 64)).cell? ⟨w.heap.size, 1, none⟩ = some (.int .i64 most) := by
          have hh := World.alloc_heap_new w (.cells #[.int .i64 2, .int .i64 most] 64)
          simp only [World.cell?, hh]; rfl
        go_enter Try.func33, Try.ntmps33
        go_wp2_with fail
        refine cR.mono ?_
        rintro r w2 ⟨u, rfl, hO2, hr2, g2⟩
        obtain ⟨b, cap, rfl, -, hcm⟩ := hO2.shape
        have hq2 := h1.mid g2
        have hbx2 : w2.cell? ⟨w.heap.size, 1, none⟩ = some (.int .i64 most) := (World.cell?_of_block (g2.block w.heap.size (by simp) (by simp; omega))).trans hbx
        clear cR
        go_wp2_with fail
        refine (CQ.out _ hq2).mono ?_
        rintro r w3 ⟨u3, rfl, hs3, hq3, g3⟩
        obtain ⟨b3, cap3, rfl, -⟩ := id hs3
        have hX := h1.two hr2 g2 hq3 g3 hle
        have hO3 := hO2.kept g3 (.inr (hO2.not_at hq2.at0 (by decide)))
        have hs2 := hO3.sl (Nat.le_refl w3.heap.size)
        have hz2 := g2.size
        have hz3 := g3.size
        simp only [World.size_alloc] at hz2 hO3
        have hB3 : Below N w w3 := hB0.trans hX.2
        have hX1 := hX.1
        clear hr2 g2 hq2 hq3 g3 hX hO2 h1 hbx CQ
        go_wp2_with fail
        refine (same_any _ _ _ T T _ hs2 hs3).mono ?_
        rintro r w4 ⟨rfl, n4, rfl⟩
        have hX4 := hX1.drewN n4
        have hO4 : Ow (w.heap.size + 1) (w3.drewN n4) (.slice b T.length cap) T := hO3.kept (grown_drewN w3 n4) (by cases b <;> simp [Value.ownBlock])
        have hB4 : Below N w (w3.drewN n4) := hB3.trans ⟨rfl, rfl, rfl, Nat.le_refl _, fun _ _ => rfl⟩
        simp only [decide_true]
        clear hs2 hs3 hO3 hB3 hX1 hbx2
        have hRz : R < w.heap.size + 1 := by omega
        have hQz : Q < w.heap.size + 1 := by omega
        unfold maxLen at hcm
        obtain ⟨W4, hW4⟩ : ∃ W4, w3.drewN n4 = W4 := ⟨_, rfl⟩
        rw [hW4] at hX4 hO4 hB4 ⊢
        clear hW4
        go_wp2_with fail
        go_loopw [9] (fun i wr => ∃ (k : Nat) (T' : List UInt8), i = .int .i64 (k : Int) ∧ k ≤ T.length ∧ T'.length = T.length ∧ Ow (w.heap.size + 1) wr (.slice b T'.length cap) T' ∧ Both N wr R Q v l a' e' ∧ Below N w wr) (fun i _ => T.length - (intOf i).toNat)
        case atStart => exact ⟨0, T, rfl, by omega, rfl, hO4, hX4, hB4⟩
        case round =>
          obtain ⟨k, T', rfl, hk, hT', hOr, hXr, hBr⟩ := hrel
          have HT' : Hid (T'.length = T.length) := hT'
          by_cases hlt : k < T.length
          · obtain ⟨g, hbg, -, -, -, -⟩ := hOr.at0 (by omega)
            subst hbg
            obtain ⟨hc, hf, hgN⟩ := hOr.can k (by omega)
            unfold encB at hc
            have HN : Hid (Ow (w.heap.size + 1) (wr.setCell ⟨g, k, none⟩ (.int .u8 9)) (.slice (some ⟨g, 0, none⟩) (T'.set k 9).length cap) (T'.set k 9)) := by
              have := hOr.store k 9
              rw [List.length_set]; exact this
            have HM : Hid (Both N (wr.setCell ⟨g, k, none⟩ (.int .u8 9)) R Q v l a' e') := hXr.set g k _ (by omega) (by omega)
            have HL : Hid (Below N w (wr.setCell ⟨g, k, none⟩ (.int .u8 9))) := hBr.setCell (p := ⟨g, k, none⟩) (by show N ≤ g; omega) _
            clear hT' hOr hXr hBr hX4 hO4 hB4
            go_wp2
            go_roundw
            case rel => exact ⟨k + 1, T'.set k 9, by go_num, by omega, by rw [List.length_set]; exact HT'.out, HN.out, HM.out, HL.out⟩
            case measure => simp [intOf]; omega
          · clear hT' hX4 hO4 hB4
            go_wp2
            go_ret
            exact ⟨rfl, _, _, hXr, hBr⟩
      · have t2 : (kind == 2) = false := by rw [beq_eq_false_iff_ne]; exact q2
        clear q2
        by_cases q3 : kind = 3
        · subst q3
          have hle := takeAt_le l a e most ha
          have cR := fun w2 (h : Rdr N w2 R l a e) => rText_any N R l a e most w2 h hll ha
          have cQ := fun w2 (h : Rrd N w2 Q v l a e) => qText_any N Q v l a e most w2 h hl ha
          generalize takeAt l a e most = p at *
          obtain ⟨T, a', e'⟩ := p
          simp only at hle cR cQ
          have CR : Hid (∀ w2, Rdr N w2 R l a e → Calls Try.prog 44 #[.pointer (some ⟨R, 0, none⟩), .int .i64 most] w2 fun r w' => r = .returned (.string ⟨T.toArray⟩) ∧ Rdr N w' R l a' e' ∧ w2.grownBy w' (some R)) := cR
          have CQ : Hid (∀ w2, Rrd N w2 Q v l a e → Calls Try.prog 56 #[.pointer (some ⟨Q, 0, none⟩), .int .i64 most] w2 fun r w' => r = .returned (.string ⟨T.toArray⟩) ∧ Rrd N w' Q v l a' e' ∧ w2.grownBy w' (some Q)) := cQ
          clear cQ cR
          have hRl := h.r.lt
          have hQl := h.q.lt
          obtain ⟨W1, hW1⟩ : ∃ W1, w.alloc (.cells #[.int .i64 3, .int .i64 most] 64) = W1 := ⟨_, rfl⟩
          have hbx0 : W1.cell? ⟨w.heap.size, 0, none⟩ = some (.int .i64 3) := by
            rw [← hW1]
            have hh := World.alloc_heap_new w (.cells #[.int .i64 3, .int .i64 most] 64)
            simp only [World.cell?, hh]; rfl
          have hbx : W1.cell? ⟨w.heap.size, 1, none⟩ = some (.int .i64 most) := by
            rw [← hW1]
            have hh := World.alloc_heap_new w (.cells #[.int .i64 3, .int .i64 most] 64)
            simp only [World.cell?, hh]; rfl
          have hWz : W1.heap.size = w.heap.size + 1 := by rw [← hW1]; simp
          rw [hW1] at h1 hB0
          go_enter Try.func33, Try.ntmps33
          go_wp2_with fail
          clear hW1
          have hD := h1.drewN 1
          go_region_held3 (fun w' => w'.cell? ⟨w.heap.size, 1, none⟩ = some (.int .i64 most)) (go_keep)
            (first
              | (go_at_call 44; refine (CR.out _ hD.r).mono ?_; rintro r w2 ⟨rfl, hr2, g2⟩; have hq2 := hD.mid g2; have hbx2 : w2.cell? ⟨w.heap.size, 1, none⟩ = some (.int .i64 most) := (World.cell?_of_block (g2.block w.heap.size (by show w.heap.size < W1.heap.size; omega) (by simp; omega))).trans hbx)
              | (go_at_call 56; refine (CQ.out _ hq2).mono ?_; rintro r w3 ⟨rfl, hq3, g3⟩; have hz2 := g2.size; have hbx3 : w3.cell? ⟨w.heap.size, 1, none⟩ = some (.int .i64 most) := (World.cell?_of_block (g3.block w.heap.size (by have : W1.heap.size ≤ w2.heap.size := hz2; omega) (by simp; omega))).trans hbx2))
          have hX := hD.two hr2 g2 hq3 g3 hle
          have hB1D : Below N W1 (W1.drewN 1) := ⟨rfl, rfl, rfl, Nat.le_refl _, fun _ _ => rfl⟩
          clear hr2 g2 hq2 hq3 g3 hbx2 hbx3 hbx hbx0 hD h1
          go_wp2
          go_ret
          exact ⟨by simp, _, _, hX.1, (hB0.trans hB1D).trans hX.2⟩
        · have t3 : (kind == 3) = false := by rw [beq_eq_false_iff_ne]; exact q3
          clear q3
          go_enter Try.func33, Try.ntmps33
          go_wp2
          go_ret
          exact ⟨rfl, _, _, h1, hB0⟩
end Go.Proofs.Ytndgfkgfonfliaa
