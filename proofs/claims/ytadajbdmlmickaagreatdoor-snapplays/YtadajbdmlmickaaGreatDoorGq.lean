/-
  The document's reader and its GetSnap, of texts up to two million bytes.
-/
import Derived.Test.YtadajbdmlmickaaGreatDoorJCc
namespace Go.Proofs.YtadajbdmlmickaaGreatDoor.Cd.Gq
open Go.RowKit Go.Shelf Go.Proofs.YtadajbdmlmickaaGreatDoor.Cd


set_option maxRecDepth 100000 in
set_option maxHeartbeats 1000000 in
/-- The document's Int of a reader. -/
theorem qInt_any (N Q : Nat) (v : Value) (l : List UInt8) (a e : Nat) (w : World) (h : Rrd N w Q v l a e) (hl : l.length ≤ 2000000) (ha : a ≤ l.length) :
    Calls Tryz.prog 84 #[.pointer (some ⟨Q, 0, none⟩)] w fun r w' =>
      r = .returned (.int .i64 ((pk l a e).1 : Int)) ∧ Rrd N w' Q v l (a + (pk l a e).2.1) (pk l a e).2.2 ∧ w.grownBy w' (some Q) := by
  obtain ⟨k0, k1, k2, f1, f2⟩ := h.cells
  obtain ⟨av, c, rfl, -⟩ := id h.sl
  by_cases he : e = 0
  · subst he
    have hpk : pk l a 0 = intAt l a := rfl
    rw [hpk]
    have hbd := intAt_bd l a
    generalize hr : intAt l a = r at *
    have HR : Hid (intAt l a = r) := hr
    obtain ⟨n, s, e'⟩ := r
    obtain ⟨b1, b2, b3, -⟩ := hbd
    simp only at b1 b2 b3 ⊢
    have b4 := b3 ha
    clear hr hpk b3
    have hcall : ∀ nq, Calls Tryz.prog 115 #[.slice av l.length c, .int .i64 (a : Int)] (w.drewN nq) fun e w' => e = .returned (tup3 (n, s, e')) ∧ w' = w.drewN nq := fun nq => by
      have := refInt_any N _ l (a : Int) (w.drewN nq) (h.drewN nq).sl (by omega)
      rw [HR.out] at this; exact this
    unfold tup3 at hcall
    simp only at hcall
    have HC := hcall
    clear hcall
    go_enter Tryz.func84, Tryz.ntmps84
    go_wp2
    go_quiet ((go_at_call 115; exact Calls.quiet_of_same (HC _)))
    have HF : Hid (∀ nq, Rrd N (((w.drewN nq).setCell ⟨Q, 2, none⟩ (.int .i64 (e' : Int))).setCell ⟨Q, 1, none⟩ (.int .i64 ((a : Int) + (s : Int)))) Q (.slice av l.length c) l (a + s) e') := fun nq => by
      have := ((h.drewN nq).err e').at' (a + s)
      simpa using this
    have HG : Hid (∀ nq, w.grownBy (((w.drewN nq).setCell ⟨Q, 2, none⟩ (.int .i64 (e' : Int))).setCell ⟨Q, 1, none⟩ (.int .i64 ((a : Int) + (s : Int)))) (some Q)) := fun nq =>
      grown_trans (grown_trans (grown_trans (grown_refl w _) (grown_drewN w nq) (by simp)) (grown_set _ _ _ _) (fun k e => .inl e)) (grown_set _ _ _ _) (fun k e => .inl e)
    clear HC h
    go_wp2
    go_ret
    exact ⟨rfl, by simpa using HF.out _, by simpa using HG.out _⟩
  · have hpk : pk l a e = (0, 0, e) := by simp [pk, he]
    rw [hpk]
    have he' : ((e : Int) != 0) = true := by simp; omega
    go_enter Tryz.func84, Tryz.ntmps84
    go_wp2
    go_ret
    exact ⟨rfl, h, grown_refl w _⟩

set_option maxRecDepth 100000 in
set_option maxHeartbeats 1000000 in
theorem qLeft_any (N Q : Nat) (v : Value) (l : List UInt8) (a e : Nat) (w : World) (h : Rrd N w Q v l a e) (hl : l.length ≤ 2000000) (ha : a ≤ l.length) :
    Calls Tryz.prog 116 #[.pointer (some ⟨Q, 0, none⟩)] w fun r w' => r = .returned (.int .i64 ((l.length : Int) - (a : Int))) ∧ ∃ n, w' = w.drewN n := by
  obtain ⟨k0, k1, k2, f1, f2⟩ := h.cells
  obtain ⟨av, c, rfl, -⟩ := id h.sl
  go_enter Tryz.func116, Tryz.ntmps116
  go_wp2
  go_quiet (fail)
  go_wp2
  go_ret
  exact ⟨rfl, _, rfl⟩

set_option maxRecDepth 100000 in
set_option maxHeartbeats 1000000 in
theorem qDone_any (N Q : Nat) (v : Value) (l : List UInt8) (a e : Nat) (w : World) (h : Rrd N w Q v l a e) (hl : l.length ≤ 2000000) (ha : a ≤ l.length) :
    Calls Tryz.prog 86 #[.pointer (some ⟨Q, 0, none⟩)] w fun r w' => r = .returned (.int .i64 (doneE l a e : Int)) ∧ ∃ n, w' = w.drewN n := by
  obtain ⟨k0, k1, k2, f1, f2⟩ := h.cells
  by_cases he : e = 0
  · subst he
    by_cases hlt : a < l.length
    · have HE : Hid (doneE l a 0 = 3) := by show doneE l a 0 = 3; simp [doneE, hlt]
      go_enter Tryz.func86, Tryz.ntmps86
      go_wp2_with (go_at_call 116; refine (qLeft_any N Q v l a 0 w h hl ha).mono ?_; rintro r w1 ⟨rfl, n, rfl⟩)
      go_ret
      exact ⟨by rw [HE.out]; rfl, _, rfl⟩
    · have HE : Hid (doneE l a 0 = 0) := by show doneE l a 0 = 0; simp [doneE, hlt]
      go_enter Tryz.func86, Tryz.ntmps86
      go_wp2_with (go_at_call 116; refine (qLeft_any N Q v l a 0 w h hl ha).mono ?_; rintro r w1 ⟨rfl, n, rfl⟩)
      go_ret
      exact ⟨by rw [HE.out]; rfl, _, rfl⟩
  · have HE : Hid (doneE l a e = e) := by show doneE l a e = e; simp [doneE, he]
    have he' : ((e : Int) == 0) = false := by simp; omega
    go_enter Tryz.func86, Tryz.ntmps86
    go_wp2
    go_ret
    exact ⟨by rw [HE.out]; rfl, 0, rfl⟩

set_option maxRecDepth 100000 in
set_option maxHeartbeats 4000000 in
theorem qBytes_any (N Q : Nat) (v : Value) (l : List UInt8) (a e : Nat) (most : Int) (w : World) (h : Rrd N w Q v l a e) (hl : l.length ≤ 2000000) (ha : a ≤ l.length) :
    Calls Tryz.prog 85 #[.pointer (some ⟨Q, 0, none⟩), .int .i64 most] w fun r w' =>
      ∃ u, r = .returned u ∧ Sl w'.heap.size w' u (takeAt l a e most).1 ∧ Rrd N w' Q v l (takeAt l a e most).2.1 (takeAt l a e most).2.2 ∧ w.grownBy w' (some Q) := by
  have hp := qInt_any N Q v l a e w h hl ha
  have hbd := pk_bd l a e
  have hin := pk_in l a e
  obtain ⟨k0, k1, k2, f1, f2⟩ := h.cells
  obtain ⟨av, c, rfl, -, hcm, hsl⟩ := id h.sl
  unfold takeAt
  generalize pk l a e = p at *
  obtain ⟨n, s, e'⟩ := p
  obtain ⟨b1, b2, b3, b5⟩ := hbd
  simp only at hp b1 b2 b3 b5 hin ⊢
  have b4 := b3 ha
  by_cases he : e' = 0
  · subst he
    have hin' := hin rfl
    obtain ⟨b, off, rfl, -, -⟩ := hsl.resolve_left (by intro h; subst h; simp at hin')
    rw [if_neg (by simp)]
    clear hin b3 b5 hsl
    have hcase : (most < 0 ∧ max most 0 = 0) ∨ (¬ most < 0 ∧ max most 0 = most) := by omega
    rcases hcase with ⟨hneg, hmx⟩ | ⟨hneg, hmx⟩
    all_goals
      rw [hmx]
      clear hmx
    · by_cases hm : (0 : Int) < (n : Int)
      · rw [if_pos hm]
        go_enter Tryz.func85, Tryz.ntmps85
        go_wp2_with (go_at_call 84; refine hp.mono ?_; rintro r w1 ⟨rfl, h1, hg⟩; obtain ⟨_, k1', k2', f1', f2'⟩ := h1.cells)
        go_ret
        exact ⟨_, rfl, Sl.nil _ _, (h1.err 3).at' a, grown_trans (grown_trans hg (grown_set _ _ _ _) (fun k e => .inl e)) (grown_set _ _ _ _) (fun k e => .inl e)⟩
      · have hs : ¬ (l.length - (a + s) < n) := by omega
        rw [if_neg hm, if_neg hs]
        have hs' : (n : Int) ≤ (l.length : Int) - ((a : Int) + (s : Int)) := by omega
        go_enter Tryz.func85, Tryz.ntmps85
        go_wp2_with (go_at_call 84; refine hp.mono ?_; rintro r w1 ⟨rfl, h1, hg⟩; obtain ⟨k0', k1', k2', f1', f2'⟩ := h1.cells)
        go_quiet (fail)
        go_wp2
        obtain ⟨W2, hW2⟩ : ∃ W2, (w1.drewN nq).setCell ⟨Q, 1, none⟩ (.int .i64 ((a : Int) + (s : Int) + (n : Int))) = W2 := ⟨_, rfl⟩
        have h2 : Rrd N W2 Q (.slice (some ⟨b, off, none⟩) l.length c) l (a + s + n) 0 := by
          rw [← hW2]; simpa using (h1.drewN nq).at' (a + s + n)
        have hg2 : w.grownBy W2 (some Q) := by
          rw [← hW2]; exact grown_trans (grown_trans hg (grown_drewN w1 nq) (by simp)) (grown_set _ _ _ _) (fun k e => .inl e)
        rw [hW2]
        clear hW2 h1 hg k0' k1' k2' f1' f2' hp k0 k1 k2 f1 f2 h
        obtain ⟨k0', k1', k2', -, -⟩ := h2.cells
        have k1'' : W2.cell? ⟨Q, 1, none⟩ = some (.int .i64 ((a : Int) + (s : Int) + (n : Int))) := by simpa using k1'
        clear k1'
        have hD : Below N W2 W2.drew := ⟨rfl, rfl, rfl, Nat.le_refl _, fun _ _ => rfl⟩
        have hmid := (h2.sl.mid' (a + s) n (by omega)).below hD
        have hlen : ((l.drop (a + s)).take n).length ≤ 1099511627776 := by simp; omega
        have hNle : N ≤ W2.heap.size := by have := h2.lt; have := h2.le; omega
        have hlc : l.length ≤ c := by obtain ⟨_, _, e, hc, _⟩ := h2.sl; cases e; exact hc
        unfold maxLen at hcm
        have hQ : Q < W2.heap.size := h2.lt
        have hwA : IntKind.i64.wrap ((a : Int) + (s : Int)) = (a : Int) + (s : Int) := by rw [IntKind.wrap_i64]; omega
        have hwB : IntKind.i64.wrap ((a : Int) + (s : Int) + (n : Int) - (n : Int)) = (a : Int) + (s : Int) := by rw [IntKind.wrap_i64]; omega
        have i1 : (0 : Int) ≤ (a : Int) + (s : Int) := by omega
        have i2 : (a : Int) + (s : Int) ≤ (a : Int) + (s : Int) + (n : Int) := by omega
        have i3 : (a : Int) + (s : Int) + (n : Int) ≤ (c : Int) := by omega
        have i4 : (0 : Int) ≤ (a : Int) + (s : Int) + (n : Int) := by omega
        have i5 : ((a : Int) + (s : Int) + (n : Int)).toNat = a + s + n := by omega
        have i6 : ((a : Int) + (s : Int)).toNat = a + s := by omega
        have i7 : a + s + n - (a + s) = n := by omega
        have hz0 : n = 0 → (l.drop (a + s)).take n = [] := fun h => by simp [h]
        generalize hT : (l.drop (a + s)).take n = T at *
        have HT : Hid ((l.drop (a + s)).take n = T) := hT
        clear hT
        have HX : Hid (∀ w3 u, Ow W2.heap.size w3 u T → Below W2.heap.size W2 w3 → Sl w3.heap.size w3 u T ∧ Rrd N w3 Q (.slice (some ⟨b, off, none⟩) l.length c) l (a + s + n) 0 ∧ w.grownBy w3 (some Q)) :=
          fun w3 u hO hB => ⟨hO.sl (Nat.le_refl _), h2.below hB (Nat.le_refl _), grown_trans hg2 (Below.grownBy' hB none) (by simp)⟩
        clear h2 hg2
        by_cases hcz : c = a + s
        · have hn0 : n = 0 := by omega
          have hT0 := hz0 hn0
          subst hcz hT0
          have hmid : Sl N W2.drew (.slice (some ⟨b, off, none⟩) n 0) [] := ⟨_, _, by rw [hn0]; rfl, by simp, by unfold maxLen; omega, .inl rfl⟩
          have j1 : (n : Int) ≤ 0 := by omega
          have j2 : (a : Int) + (s : Int) + (n : Int) ≤ (a : Int) + (s : Int) := by omega
          have j3 : n ≤ 0 := by omega
          clear hn0 i2 i3
          go_region_with (go_at_call 69; refine (bytes_any N _ _ _ hmid (by simpa using hNle) hlen).mono ?_; rintro r w3 ⟨u, rfl, hO3, hB3⟩; obtain ⟨a3, c3, rfl, -, -⟩ := hO3.shape)
          all_goals
            have hX := HX.out w3 _ hO3 ⟨hB3.os, hB3.tape, hB3.output, hB3.size, hB3.block⟩
            clear hO3 hB3 hmid
            go_wp2
            go_ret
            rw [HT.out]
            exact ⟨_, rfl, hX⟩
        · have hcz' : ¬ c - (a + s) = 0 := by omega
          have hcz2 : a + s < c := by omega
          have hcz3 : ¬ c ≤ a + s := by omega
          go_region_held3 (fun w' => w'.cell? ⟨Q, 0, none⟩ = some (.slice (some ⟨b, off, none⟩) l.length c) ∧ w'.cell? ⟨Q, 1, none⟩ = some (.int .i64 ((a : Int) + (s : Int) + (n : Int)))) (go_keep)
            (first | (go_at_call 69; refine (bytes_any N _ _ _ hmid (by simpa using hNle) hlen).mono ?_; rintro r w3 ⟨u, rfl, hO3, hB3⟩; obtain ⟨a3, c3, rfl, -, -⟩ := hO3.shape; have q0 := (hB3.cell (p := ⟨Q, 0, none⟩) hQ).trans k0'; have q1 := (hB3.cell (p := ⟨Q, 1, none⟩) hQ).trans k1''))
          have hX := HX.out w3 _ hO3 ⟨hB3.os, hB3.tape, hB3.output, hB3.size, hB3.block⟩
          clear q0 q1 hO3 hB3 hmid
          go_wp2
          go_ret
          rw [HT.out]
          exact ⟨_, rfl, hX⟩
    · by_cases hm : most < (n : Int)
      · rw [if_pos hm]
        go_enter Tryz.func85, Tryz.ntmps85
        go_wp2_with (go_at_call 84; refine hp.mono ?_; rintro r w1 ⟨rfl, h1, hg⟩; obtain ⟨_, k1', k2', f1', f2'⟩ := h1.cells)
        go_ret
        exact ⟨_, rfl, Sl.nil _ _, (h1.err 3).at' a, grown_trans (grown_trans hg (grown_set _ _ _ _) (fun k e => .inl e)) (grown_set _ _ _ _) (fun k e => .inl e)⟩
      · rw [if_neg hm]
        by_cases hs : l.length - (a + s) < n
        · rw [if_pos hs]
          have hs' : (l.length : Int) - ((a : Int) + (s : Int)) < (n : Int) := by omega
          go_enter Tryz.func85, Tryz.ntmps85
          go_wp2_with (go_at_call 84; refine hp.mono ?_; rintro r w1 ⟨rfl, h1, hg⟩; obtain ⟨k0', k1', k2', f1', f2'⟩ := h1.cells)
          go_quiet (fail)
          go_wp2
          go_ret
          refine ⟨_, rfl, Sl.nil _ _, ?_, ?_⟩
          · have := (((h1.drewN nq).err 2).at' a); simpa using this
          · have := grown_trans (grown_trans (grown_trans hg (grown_drewN w1 nq) (by simp)) (grown_set _ Q 2 (.int .i64 2)) (fun k e => .inl e)) (grown_set _ Q 1 (.int .i64 (a : Int))) (fun k e => .inl e)
            simpa using this
        · rw [if_neg hs]
          have hs' : (n : Int) ≤ (l.length : Int) - ((a : Int) + (s : Int)) := by omega
          go_enter Tryz.func85, Tryz.ntmps85
          go_wp2_with (go_at_call 84; refine hp.mono ?_; rintro r w1 ⟨rfl, h1, hg⟩; obtain ⟨k0', k1', k2', f1', f2'⟩ := h1.cells)
          go_quiet (fail)
          go_wp2
          obtain ⟨W2, hW2⟩ : ∃ W2, (w1.drewN nq).setCell ⟨Q, 1, none⟩ (.int .i64 ((a : Int) + (s : Int) + (n : Int))) = W2 := ⟨_, rfl⟩
          have h2 : Rrd N W2 Q (.slice (some ⟨b, off, none⟩) l.length c) l (a + s + n) 0 := by
            rw [← hW2]; simpa using (h1.drewN nq).at' (a + s + n)
          have hg2 : w.grownBy W2 (some Q) := by
            rw [← hW2]; exact grown_trans (grown_trans hg (grown_drewN w1 nq) (by simp)) (grown_set _ _ _ _) (fun k e => .inl e)
          rw [hW2]
          clear hW2 h1 hg k0' k1' k2' f1' f2' hp k0 k1 k2 f1 f2 h
          obtain ⟨k0', k1', k2', -, -⟩ := h2.cells
          have k1'' : W2.cell? ⟨Q, 1, none⟩ = some (.int .i64 ((a : Int) + (s : Int) + (n : Int))) := by simpa using k1'
          clear k1'
          have hD : Below N W2 W2.drew := ⟨rfl, rfl, rfl, Nat.le_refl _, fun _ _ => rfl⟩
          have hmid := (h2.sl.mid' (a + s) n (by omega)).below hD
          have hlen : ((l.drop (a + s)).take n).length ≤ 1099511627776 := by simp; omega
          have hNle : N ≤ W2.heap.size := by have := h2.lt; have := h2.le; omega
          have hlc : l.length ≤ c := by obtain ⟨_, _, e, hc, _⟩ := h2.sl; cases e; exact hc
          unfold maxLen at hcm
          have hQ : Q < W2.heap.size := h2.lt
          have hwA : IntKind.i64.wrap ((a : Int) + (s : Int)) = (a : Int) + (s : Int) := by rw [IntKind.wrap_i64]; omega
          have hwB : IntKind.i64.wrap ((a : Int) + (s : Int) + (n : Int) - (n : Int)) = (a : Int) + (s : Int) := by rw [IntKind.wrap_i64]; omega
          have i1 : (0 : Int) ≤ (a : Int) + (s : Int) := by omega
          have i2 : (a : Int) + (s : Int) ≤ (a : Int) + (s : Int) + (n : Int) := by omega
          have i3 : (a : Int) + (s : Int) + (n : Int) ≤ (c : Int) := by omega
          have i4 : (0 : Int) ≤ (a : Int) + (s : Int) + (n : Int) := by omega
          have i5 : ((a : Int) + (s : Int) + (n : Int)).toNat = a + s + n := by omega
          have i6 : ((a : Int) + (s : Int)).toNat = a + s := by omega
          have i7 : a + s + n - (a + s) = n := by omega
          have hz0 : n = 0 → (l.drop (a + s)).take n = [] := fun h => by simp [h]
          generalize hT : (l.drop (a + s)).take n = T at *
          have HT : Hid ((l.drop (a + s)).take n = T) := hT
          clear hT
          have HX : Hid (∀ w3 u, Ow W2.heap.size w3 u T → Below W2.heap.size W2 w3 → Sl w3.heap.size w3 u T ∧ Rrd N w3 Q (.slice (some ⟨b, off, none⟩) l.length c) l (a + s + n) 0 ∧ w.grownBy w3 (some Q)) :=
            fun w3 u hO hB => ⟨hO.sl (Nat.le_refl _), h2.below hB (Nat.le_refl _), grown_trans hg2 (Below.grownBy' hB none) (by simp)⟩
          clear h2 hg2
          by_cases hcz : c = a + s
          · have hn0 : n = 0 := by omega
            have hT0 := hz0 hn0
            subst hcz hT0
            have hmid : Sl N W2.drew (.slice (some ⟨b, off, none⟩) n 0) [] := ⟨_, _, by rw [hn0]; rfl, by simp, by unfold maxLen; omega, .inl rfl⟩
            have j1 : (n : Int) ≤ 0 := by omega
            have j2 : (a : Int) + (s : Int) + (n : Int) ≤ (a : Int) + (s : Int) := by omega
            have j3 : n ≤ 0 := by omega
            clear hn0 i2 i3
            go_region_with (go_at_call 69; refine (bytes_any N _ _ _ hmid (by simpa using hNle) hlen).mono ?_; rintro r w3 ⟨u, rfl, hO3, hB3⟩; obtain ⟨a3, c3, rfl, -, -⟩ := hO3.shape)
            all_goals
              have hX := HX.out w3 _ hO3 ⟨hB3.os, hB3.tape, hB3.output, hB3.size, hB3.block⟩
              clear hO3 hB3 hmid
              go_wp2
              go_ret
              rw [HT.out]
              exact ⟨_, rfl, hX⟩
          · have hcz' : ¬ c - (a + s) = 0 := by omega
            have hcz2 : a + s < c := by omega
            have hcz3 : ¬ c ≤ a + s := by omega
            go_region_held3 (fun w' => w'.cell? ⟨Q, 0, none⟩ = some (.slice (some ⟨b, off, none⟩) l.length c) ∧ w'.cell? ⟨Q, 1, none⟩ = some (.int .i64 ((a : Int) + (s : Int) + (n : Int)))) (go_keep)
              (first | (go_at_call 69; refine (bytes_any N _ _ _ hmid (by simpa using hNle) hlen).mono ?_; rintro r w3 ⟨u, rfl, hO3, hB3⟩; obtain ⟨a3, c3, rfl, -, -⟩ := hO3.shape; have q0 := (hB3.cell (p := ⟨Q, 0, none⟩) hQ).trans k0'; have q1 := (hB3.cell (p := ⟨Q, 1, none⟩) hQ).trans k1''))
            have hX := HX.out w3 _ hO3 ⟨hB3.os, hB3.tape, hB3.output, hB3.size, hB3.block⟩
            clear q0 q1 hO3 hB3 hmid
            go_wp2
            go_ret
            rw [HT.out]
            exact ⟨_, rfl, hX⟩
  · rw [if_pos he]
    have he' : ((e' : Int) != 0) = true := by simp; omega
    have hs0 : s = 0 := (b5 he).2
    subst hs0
    clear b3 b5 hin hsl
    go_enter Tryz.func85, Tryz.ntmps85
    go_wp2_with (go_at_call 84; refine hp.mono ?_; rintro r w1 ⟨rfl, h1, hg⟩; obtain ⟨_, k1', k2', f1', f2'⟩ := h1.cells)
    go_ret
    exact ⟨_, rfl, Sl.nil _ _, h1, hg⟩

/-- The document's reader. -/
structure Rq (w0 w : World) (Q : Nat) (v : Value) (l : List UInt8) (p e : Nat) : Prop where
  rrd : Rrd w0.heap.size w Q v l p e
  bel : Below w0.heap.size w0 w
  len : l.length ≤ 2000000
  le : p ≤ l.length

theorem Rq.mono {w0 w w' : World} {Q : Nat} {v : Value} {l : List UInt8} {p e : Nat} (h : Rq w0 w Q v l p e) (hB : Below w.heap.size w w') : Rq w0 w' Q v l p e :=
  ⟨h.rrd.below hB (Nat.le_refl _), h.bel.trans (hB.mono h.bel.size), h.len, h.le⟩

theorem Rq.turn {w0 w w' : World} {Q : Nat} {v : Value} {l : List UInt8} {p e p' e' : Nat} (h : Rq w0 w Q v l p e) (h' : Rrd w0.heap.size w' Q v l p' e') (hg : w.grownBy w' (some Q)) (hp : p' ≤ l.length) : Rq w0 w' Q v l p' e' :=
  ⟨h', h.bel.grown hg h.bel.size (fun k e => by cases e; exact h.rrd.le), h.len, hp⟩

theorem newQ {M : Nat} {w : World} {v : Value} {l : List UInt8} (hv : Sl M w v l) (hM : M ≤ w.heap.size) (hl : l.length ≤ 2000000) : Rq w (w.alloc (.cells #[v, .int .i64 0, .int .i64 0] 130)) w.heap.size v l 0 0 := by
  have hB : Below w.heap.size w (w.alloc (.cells #[v, .int .i64 0, .int .i64 0] 130)) := (Below.refl _ w).alloc (Nat.le_refl _) _
  exact ⟨⟨Nat.le_refl _, World.alloc_heap_new w _, (hv.below (hB.mono hM)).mono hM⟩, hB, hl, Nat.zero_le _⟩

theorem rqInt_any {w0 w : World} {Q : Nat} {v : Value} {l : List UInt8} {a e n a' e' : Nat} (h : Rq w0 w Q v l a e) (hr : rdN l (a, e) = (n, (a', e'))) :
    Calls Tryz.prog 84 #[.pointer (some ⟨Q, 0, none⟩)] w fun r w' => r = .returned (.int .i64 (n : Int)) ∧ Rq w0 w' Q v l a' e' := by
  have hle := rdN_le l (a, e) h.le
  refine (qInt_any _ Q v l a e w h.rrd h.len h.le).mono ?_
  rintro r w' ⟨rfl, h', hg⟩
  rw [hr] at hle
  simp only [rdN, Prod.mk.injEq] at hr
  obtain ⟨rfl, rfl, rfl⟩ := hr
  exact ⟨rfl, h.turn h' hg hle⟩

theorem rqBytes_any {w0 w : World} {Q : Nat} {v : Value} {l t : List UInt8} {a e a' e' : Nat} (most : Int) (h : Rq w0 w Q v l a e) (hr : rdB l most (a, e) = (t, (a', e'))) :
    Calls Tryz.prog 85 #[.pointer (some ⟨Q, 0, none⟩), .int .i64 most] w fun r w' => ∃ u, r = .returned u ∧ Sl w'.heap.size w' u t ∧ Rq w0 w' Q v l a' e' := by
  have hle := rdB_le l most (a, e) h.le
  refine (qBytes_any _ Q v l a e most w h.rrd h.len h.le).mono ?_
  rintro r w' ⟨u, rfl, hS, h', hg⟩
  rw [hr] at hle
  simp only [rdB, Prod.mk.injEq] at hr
  obtain ⟨rfl, rfl, rfl⟩ := hr
  exact ⟨u, rfl, hS, h.turn h' hg hle⟩

theorem rqDone_any {w0 w : World} {Q : Nat} {v : Value} {l : List UInt8} {a e : Nat} (h : Rq w0 w Q v l a e) :
    Calls Tryz.prog 86 #[.pointer (some ⟨Q, 0, none⟩)] w fun r w' => r = .returned (.int .i64 (doneE l a e : Int)) ∧ Below w.heap.size w w' := by
  refine (qDone_any _ Q v l a e w h.rrd h.len h.le).mono ?_
  rintro r w' ⟨rfl, n, rfl⟩
  exact ⟨rfl, rfl, rfl, rfl, Nat.le_refl _, fun _ _ => rfl⟩

theorem rqI {w0 w : World} {Q : Nat} {v : Value} {l : List UInt8} {a e n a' e' : Nat} (h : Rq w0 w Q v l a e) (hr : Hid (rdN l (a, e) = (n, (a', e')))) :
    Calls Tryz.prog 84 #[.pointer (some ⟨Q, 0, none⟩)] w fun r w' => r = .returned (.int .i64 (n : Int)) ∧ Rq w0 w' Q v l a' e' := rqInt_any h hr.out

theorem rqB {w0 w : World} {Q : Nat} {v : Value} {l t : List UInt8} {a e a' e' : Nat} {most : Int} (h : Rq w0 w Q v l a e) (hr : Hid (rdB l most (a, e) = (t, (a', e')))) :
    Calls Tryz.prog 85 #[.pointer (some ⟨Q, 0, none⟩), .int .i64 most] w fun r w' => ∃ u, r = .returned u ∧ Sl w'.heap.size w' u t ∧ Rq w0 w' Q v l a' e' := rqBytes_any most h hr.out

set_option maxRecDepth 100000 in
set_option maxHeartbeats 2000000 in
theorem refGetSnap_any (b : List UInt8) (v : Value) (M : Nat) (w : World) (hv : Sl M w v b) (hM : M ≤ w.heap.size) (hb : b.length ≤ 2000000) : Calls Tryz.prog 44 #[v] w fun r w' =>
    ∃ u, r = .returned (.tuple #[.agg #[.int .i64 ((goSnap b).1 : Int), .int .i64 ((goSnap b).2.1 : Int), u], .int .i64 (geSnap b : Int)]) ∧ Sl w'.heap.size w' u (goSnap b).2.2 ∧ Below w.heap.size w w' := by
  obtain ⟨a, cap, rfl, -⟩ := id hv
  have hB0 : Below w.heap.size w (w.alloc (.cells #[.int .i64 0, .int .i64 0, .slice none 0 0] 34)) := (Below.refl _ w).alloc (Nat.le_refl _) _
  have hq := newQ (hv.below (hB0.mono hM)) (by simp; omega) hb
  simp only [World.size_alloc] at hq
  have HR : Hid ((w.alloc (.cells #[.int .i64 0, .int .i64 0, .slice none 0 0] 34)).heap[w.heap.size]? = some (.cells #[.int .i64 0, .int .i64 0, .slice none 0 0] 34 (0, 0))) := World.alloc_heap_new w _
  have HB0 : Hid (Below w.heap.size w (w.alloc (.cells #[.int .i64 0, .int .i64 0, .slice none 0 0] 34))) := hB0
  clear hB0
  unfold goSnap geSnap rdSnap
  obtain ⟨n1, a1, e1, H1⟩ : ∃ n1 a1 e1, Hid (rdN b (0, 0) = (n1, (a1, e1))) := ⟨_, _, _, rfl⟩
  obtain ⟨n2, a2, e2, H2⟩ : ∃ n2 a2 e2, Hid (rdN b (a1, e1) = (n2, (a2, e2))) := ⟨_, _, _, rfl⟩
  obtain ⟨n3, a3, e3, H3⟩ : ∃ n3 a3 e3, Hid (rdB b 524288 (a2, e2) = (n3, (a3, e3))) := ⟨_, _, _, rfl⟩
  simp only [H1.out, H2.out, H3.out]
  obtain ⟨E, hE⟩ : ∃ E, E = if doneE b a3 e3 = 0 then ckSnap (n1 : Int) (n2 : Int) (n3).length else doneE b a3 e3 := ⟨_, rfl⟩
  rw [← hE]
  have HE : Hid (E = if doneE b a3 e3 = 0 then ckSnap (n1 : Int) (n2 : Int) (n3).length else doneE b a3 e3) := hE
  clear hE
  obtain ⟨g, HG⟩ : ∃ g, Hid ((if E = 0 then (n1, n2, n3) else (0, 0, [])) = g) := ⟨_, rfl⟩
  rw [HG.out]
  go_enter Tryz.func44, Tryz.ntmps44
  go_wp2_with fail
  refine (rqI hq H1).mono ?_
  rintro r w2 ⟨rfl, h2⟩
  go_wp2_with fail
  refine (rqI h2 H2).mono ?_
  rintro r w3 ⟨rfl, h3⟩
  go_wp2_with fail
  refine (rqB h3 H3).mono ?_
  rintro r w4 ⟨vv, rfl, hS, h4⟩
  obtain ⟨av, cv, hvv, -⟩ := id hS
  subst hvv
  go_wp2_with fail
  have hBx : Below w4.heap.size w4 (w4.alloc (.cells #[.int .i64 (n1 : Int), .int .i64 (n2 : Int), .slice av n3.length cv] 34)) := (Below.refl _ _).alloc (Nat.le_refl _) _
  have HX : Hid ((w4.alloc (.cells #[.int .i64 (n1 : Int), .int .i64 (n2 : Int), .slice av n3.length cv] 34)).heap[w4.heap.size]? = some (.cells #[.int .i64 (n1 : Int), .int .i64 (n2 : Int), .slice av n3.length cv] 34 (0, 0))) := World.alloc_heap_new w4 _
  have hx := h4.mono hBx
  refine (rqDone_any hx).mono ?_
  rintro r w8 ⟨rfl, hB8⟩
  have hx8 := hx.mono hB8
  have ck1 := fun w' => refCkSnap_any (n1 : Int) (n2 : Int) av n3.length cv w'
  have HX8 : Hid (w8.heap[w4.heap.size]? = some (.cells #[.int .i64 (n1 : Int), .int .i64 (n2 : Int), .slice av n3.length cv] 34 (0, 0))) := (hB8.block _ (by simp)).trans HX.out
  have HR8 : Hid (w8.heap[w.heap.size]? = some (.cells #[.int .i64 0, .int .i64 0, .slice none 0 0] 34 (0, 0))) := (hx8.bel.block _ (by simp)).trans HR.out
  have HL : Hid (w4.heap.size < w8.heap.size) := by have := hB8.size; show w4.heap.size < w8.heap.size; simp at this; omega
  have HZ8 : Hid (w.heap.size < w8.heap.size) := by have := hx8.bel.size; show w.heap.size < w8.heap.size; simp at this; omega
  have HB8 : Hid (Below w.heap.size w w8) := HB0.out.trans (hx8.bel.mono (by simp))
  have hS8 := (hS.below hBx).below (hB8.mono (by simp))
  clear hx hx8 hBx
  by_cases he : doneE b a3 e3 = 0
  · have hE := HE.out
    rw [if_pos he] at hE
    rw [← hE] at ck1
    rw [he]
    obtain ⟨⟨q0, q1, q2⟩, -⟩ := cells3 HX8.out
    go_wp2_with fail
    refine (ck1 w8).mono ?_
    rintro r w9 ⟨rfl, hB9⟩
    have HX9 : Hid (w9.heap[w4.heap.size]? = some (.cells #[.int .i64 (n1 : Int), .int .i64 (n2 : Int), .slice av n3.length cv] 34 (0, 0))) := (hB9.block _ HL.out).trans HX8.out
    have HR9 : Hid (w9.heap[w.heap.size]? = some (.cells #[.int .i64 0, .int .i64 0, .slice none 0 0] 34 (0, 0))) := (hB9.block _ HZ8.out).trans HR8.out
    have HF : Hid (Below w.heap.size w w9) := HB8.out.trans (hB9.mono HB8.out.size)
    obtain ⟨⟨q0, q1, q2⟩, -⟩ := cells3 HX9.out
    obtain ⟨⟨r0, r1, r2⟩, f0, f1, f2⟩ := cells3 HR9.out
    clear ck1 hE
    by_cases hEn : E = 0
    · rw [if_pos hEn] at HG
      have hg := HG.out
      subst hg
      subst hEn
      go_wp2
      refine bodyPost_ret (results_57 rfl _ _ w.heap.size rfl (set3 HR9.out _ _ _)) rfl ?_
      have hS9 := hS8.below (hB9.mono (by have := HL.out; omega))
      refine ⟨.slice av n3.length cv, rfl, ?_, belset3 HF.out (by omega) _ _ _⟩
      exact (hS9.grow (by have := hB9.size; have := HL.out; omega) (grownset3 w9 w.heap.size _ _ _) (hS9.not_at HR9.out (by intro i b; match i with | 0 | 1 | 2 => simp [encB] | _ + 3 => simp)))
    · have hke : ((E : Int) != 0) = true := by simp; omega
      rw [if_neg hEn] at HG
      have hg := HG.out
      subst hg
      go_wp2
      refine bodyPost_ret (results_57 rfl _ _ w.heap.size rfl (set3 HR9.out _ _ _)) rfl ?_
      exact ⟨.slice none 0 0, rfl, Sl.nil _ _, belset3 HF.out (by omega) _ _ _⟩
  · have hE := HE.out
    rw [if_neg he] at hE
    rw [← hE]
    have hEn : ¬ E = 0 := by omega
    have hke : ((E : Int) == 0) = false := by simp; omega
    have hke2 : ((E : Int) != 0) = true := by simp; omega
    rw [if_neg hEn] at HG
    have hg := HG.out
    subst hg
    obtain ⟨⟨r0, r1, r2⟩, f0, f1, f2⟩ := cells3 HR8.out
    clear ck1 hE
    go_wp2
    refine bodyPost_ret (results_57 rfl _ _ w.heap.size rfl (set3 HR8.out _ _ _)) rfl ?_
    exact ⟨.slice none 0 0, rfl, Sl.nil _ _, belset3 HB8.out (by omega) _ _ _⟩
end Go.Proofs.YtadajbdmlmickaaGreatDoor.Cd.Gq
