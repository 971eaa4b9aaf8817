/-
  The document's own reader: Bytes and Text.
-/
import Derived.Test.YtfnnbfgfmbiababRrd
import Derived.Deep.RegionHeld3
namespace Go.Proofs.Ytfnnbfgfmbiabab
open Go.RowKit Go.Shelf

theorem Sl.mid' {M : Nat} {w : World} {b off cap : Nat} {l : List UInt8} (h : Sl M w (.slice (some ⟨b, off, none⟩) l.length cap) l) (a k : Nat) (hk : a + k ≤ l.length) : Sl M w (.slice (some ⟨b, off + a, none⟩) k (cap - a)) ((l.drop a).take k) := by
  obtain ⟨a', c, e, h1, h2, h3⟩ := h
  cases e
  have hlen : ((l.drop a).take k).length = k := by simp; omega
  refine ⟨_, _, by rw [hlen], by omega, by omega, ?_⟩
  rcases h3 with h3 | ⟨b', off', e, hb, hc⟩
  · subst h3; exact .inl (by simp)
  · cases e
    refine .inr ⟨b, off + a, rfl, hb, fun i hi => ?_⟩
    rw [hlen] at hi
    rw [Nat.add_assoc, hc (a + i) (by omega)]
    simp [hi, List.getElem?_drop]

set_option maxRecDepth 100000 in
set_option maxHeartbeats 4000000 in
theorem qBytes_any (N Q : Nat) (v : Value) (l : List UInt8) (a e : Nat) (most : Int) (w : World) (h : Rrd N w Q v l a e) (hl : l.length ≤ 20000) (ha : a ≤ l.length) :
    Calls Try.prog 83 #[.pointer (some ⟨Q, 0, none⟩), .int .i64 most] w fun r w' =>
      ∃ u, r = .returned u ∧ Sl w'.heap.size w' u (takeAt l a e most).1 ∧ Rrd N w' Q v l (takeAt l a e most).2.1 (takeAt l a e most).2.2 ∧ w.grownBy w' (some Q) := by
  have hp := qInt_any N Q v l a e w h hl ha
  have hbd := pk_bd l a e
  have hin := pk_in l a e
  obtain ⟨k0, k1, k2, f1, f2⟩ := h.cells
  obtain ⟨av, c, rfl, -, hcm, hsl⟩ := id h.sl
  unfold takeAt
  generalize pk l a e = p at *
  obtain ⟨n, s, e'⟩ := p
  obtain ⟨b1, b2, b3, b5⟩ := hbd
  simp only at hp b1 b2 b3 b5 hin ⊢
  have b4 := b3 ha
  by_cases he : e' = 0
  · subst he
    have hin' := hin rfl
    obtain ⟨b, off, rfl, -, -⟩ := hsl.resolve_left (by intro h; subst h; simp at hin')
    rw [if_neg (by simp)]
    clear hin b3 b5 hsl
    have hcase : (most < 0 ∧ max most 0 = 0) ∨ (¬ most < 0 ∧ max most 0 = most) := by omega
    rcases hcase with ⟨hneg, hmx⟩ | ⟨hneg, hmx⟩
    all_goals
      rw [hmx]
      clear hmx
    · by_cases hm : (0 : Int) < (n : Int)
      · rw [if_pos hm]
        go_enter Try.func83, Try.ntmps83
        go_wp2_with (go_at_call 81; refine hp.mono ?_; rintro r w1 ⟨rfl, h1, hg⟩; obtain ⟨_, k1', k2', f1', f2'⟩ := h1.cells)
        go_ret
        exact ⟨_, rfl, Sl.nil _ _, (h1.err 3).at' a, grown_trans (grown_trans hg (grown_set _ _ _ _) (fun k e => .inl e)) (grown_set _ _ _ _) (fun k e => .inl e)⟩
      · have hs : ¬ (l.length - (a + s) < n) := by omega
        rw [if_neg hm, if_neg hs]
        have hs' : (n : Int) ≤ (l.length : Int) - ((a : Int) + (s : Int)) := by omega
        go_enter Try.func83, Try.ntmps83
        go_wp2_with (go_at_call 81; refine hp.mono ?_; rintro r w1 ⟨rfl, h1, hg⟩; obtain ⟨k0', k1', k2', f1', f2'⟩ := h1.cells)
        go_quiet (fail)
        go_wp2
        obtain ⟨W2, hW2⟩ : ∃ W2, (w1.drewN nq).setCell ⟨Q, 1, none⟩ (.int .i64 ((a : Int) + (s : Int) + (n : Int))) = W2 := ⟨_, rfl⟩
        have h2 : Rrd N W2 Q (.slice (some ⟨b, off, none⟩) l.length c) l (a + s + n) 0 := by
          rw [← hW2]; simpa using (h1.drewN nq).at' (a + s + n)
        have hg2 : w.grownBy W2 (some Q) := by
          rw [← hW2]; exact grown_trans (grown_trans hg (grown_drewN w1 nq) (by simp)) (grown_set _ _ _ _) (fun k e => .inl e)
        rw [hW2]
        clear hW2 h1 hg k0' k1' k2' f1' f2' hp k0 k1 k2 f1 f2 h
        obtain ⟨k0', k1', k2', -, -⟩ := h2.cells
        have k1'' : W2.cell? ⟨Q, 1, none⟩ = some (.int .i64 ((a : Int) + (s : Int) + (n : Int))) := by simpa using k1'
        clear k1'
        have hD : Below N W2 W2.drew := ⟨rfl, rfl, rfl, Nat.le_refl _, fun _ _ => rfl⟩
        have hmid := (h2.sl.mid' (a + s) n (by omega)).below hD
        have hlen : ((l.drop (a + s)).take n).length ≤ 1099511627776 := by simp; omega
        have hNle : N ≤ W2.heap.size := by have := h2.lt; have := h2.le; omega
        have hlc : l.length ≤ c := by obtain ⟨_, _, e, hc, _⟩ := h2.sl; cases e; exact hc
        unfold maxLen at hcm
        have hQ : Q < W2.heap.size := h2.lt
        have hwA : IntKind.i64.wrap ((a : Int) + (s : Int)) = (a : Int) + (s : Int) := by rw [IntKind.wrap_i64]; omega
        have hwB : IntKind.i64.wrap ((a : Int) + (s : Int) + (n : Int) - (n : Int)) = (a : Int) + (s : Int) := by rw [IntKind.wrap_i64]; omega
        have i1 : (0 : Int) ≤ (a : Int) + (s : Int) := by omega
        have i2 : (a : Int) + (s : Int) ≤ (a : Int) + (s : Int) + (n : Int) := by omega
        have i3 : (a : Int) + (s : Int) + (n : Int) ≤ (c : Int) := by omega
        have i4 : (0 : Int) ≤ (a : Int) + (s : Int) + (n : Int) := by omega
        have i5 : ((a : Int) + (s : Int) + (n : Int)).toNat = a + s + n := by omega
        have i6 : ((a : Int) + (s : Int)).toNat = a + s := by omega
        have i7 : a + s + n - (a + s) = n := by omega
        have hz0 : n = 0 → (l.drop (a + s)).take n = [] := fun h => by simp [h]
        generalize hT : (l.drop (a + s)).take n = T at *
        have HT : Hid ((l.drop (a + s)).take n = T) := hT
        clear hT
        have HX : Hid (∀ w3 u, Ow W2.heap.size w3 u T → Below W2.heap.size W2 w3 → Sl w3.heap.size w3 u T ∧ Rrd N w3 Q (.slice (some ⟨b, off, none⟩) l.length c) l (a + s + n) 0 ∧ w.grownBy w3 (some Q)) :=
          fun w3 u hO hB => ⟨hO.sl (Nat.le_refl _), h2.below hB (Nat.le_refl _), grown_trans hg2 (Below.grownBy' hB none) (by simp)⟩
        clear h2 hg2
        by_cases hcz : c = a + s
        · have hn0 : n = 0 := by omega
          have hT0 := hz0 hn0
          subst hcz hT0
          have hmid : Sl N W2.drew (.slice (some ⟨b, off, none⟩) n 0) [] := ⟨_, _, by rw [hn0]; rfl, by simp, by unfold maxLen; omega, .inl rfl⟩
          have j1 : (n : Int) ≤ 0 := by omega
          have j2 : (a : Int) + (s : Int) + (n : Int) ≤ (a : Int) + (s : Int) := by omega
          have j3 : n ≤ 0 := by omega
          clear hn0 i2 i3
          go_region_with (go_at_call 26; refine (bytes_any N _ _ _ hmid (by simpa using hNle) hlen).mono ?_; rintro r w3 ⟨u, rfl, hO3, hB3⟩; obtain ⟨a3, c3, rfl, -, -⟩ := hO3.shape)
          all_goals
            have hX := HX.out w3 _ hO3 ⟨hB3.os, hB3.tape, hB3.output, hB3.size, hB3.block⟩
            clear hO3 hB3 hmid
            go_wp2
            go_ret
            rw [HT.out]
            exact ⟨_, rfl, hX⟩
        · have hcz' : ¬ c - (a + s) = 0 := by omega
          have hcz2 : a + s < c := by omega
          have hcz3 : ¬ c ≤ a + s := by omega
          go_region_held3 (fun w' => w'.cell? ⟨Q, 0, none⟩ = some (.slice (some ⟨b, off, none⟩) l.length c) ∧ w'.cell? ⟨Q, 1, none⟩ = some (.int .i64 ((a : Int) + (s : Int) + (n : Int)))) (go_keep)
            (first | (go_at_call 26; refine (bytes_any N _ _ _ hmid (by simpa using hNle) hlen).mono ?_; rintro r w3 ⟨u, rfl, hO3, hB3⟩; obtain ⟨a3, c3, rfl, -, -⟩ := hO3.shape; have q0 := (hB3.cell (p := ⟨Q, 0, none⟩) hQ).trans k0'; have q1 := (hB3.cell (p := ⟨Q, 1, none⟩) hQ).trans k1''))
          have hX := HX.out w3 _ hO3 ⟨hB3.os, hB3.tape, hB3.output, hB3.size, hB3.block⟩
          clear q0 q1 hO3 hB3 hmid
          go_wp2
          go_ret
          rw [HT.out]
          exact ⟨_, rfl, hX⟩
    · by_cases hm : most < (n : Int)
      · rw [if_pos hm]
        go_enter Try.func83, Try.ntmps83
        go_wp2_with (go_at_call 81; refine hp.mono ?_; rintro r w1 ⟨rfl, h1, hg⟩; obtain ⟨_, k1', k2', f1', f2'⟩ := h1.cells)
        go_ret
        exact ⟨_, rfl, Sl.nil _ _, (h1.err 3).at' a, grown_trans (grown_trans hg (grown_set _ _ _ _) (fun k e => .inl e)) (grown_set _ _ _ _) (fun k e => .inl e)⟩
      · rw [if_neg hm]
        by_cases hs : l.length - (a + s) < n
        · rw [if_pos hs]
          have hs' : (l.length : Int) - ((a : Int) + (s : Int)) < (n : Int) := by omega
          go_enter Try.func83, Try.ntmps83
          go_wp2_with (go_at_call 81; refine hp.mono ?_; rintro r w1 ⟨rfl, h1, hg⟩; obtain ⟨k0', k1', k2', f1', f2'⟩ := h1.cells)
          go_quiet (fail)
          go_wp2
          go_ret
          refine ⟨_, rfl, Sl.nil _ _, ?_, ?_⟩
          · have := (((h1.drewN nq).err 2).at' a); simpa using this
          · have := grown_trans (grown_trans (grown_trans hg (grown_drewN w1 nq) (by simp)) (grown_set _ Q 2 (.int .i64 2)) (fun k e => .inl e)) (grown_set _ Q 1 (.int .i64 (a : Int))) (fun k e => .inl e)
            simpa using this
        · rw [if_neg hs]
          have hs' : (n : Int) ≤ (l.length : Int) - ((a : Int) + (s : Int)) := by omega
          go_enter Try.func83, Try.ntmps83
          go_wp2_with (go_at_call 81; refine hp.mono ?_; rintro r w1 ⟨rfl, h1, hg⟩; obtain ⟨k0', k1', k2', f1', f2'⟩ := h1.cells)
          go_quiet (fail)
          go_wp2
          obtain ⟨W2, hW2⟩ : ∃ W2, (w1.drewN nq).setCell ⟨Q, 1, none⟩ (.int .i64 ((a : Int) + (s : Int) + (n : Int))) = W2 := ⟨_, rfl⟩
          have h2 : Rrd N W2 Q (.slice (some ⟨b, off, none⟩) l.length c) l (a + s + n) 0 := by
            rw [← hW2]; simpa using (h1.drewN nq).at' (a + s + n)
          have hg2 : w.grownBy W2 (some Q) := by
            rw [← hW2]; exact grown_trans (grown_trans hg (grown_drewN w1 nq) (by simp)) (grown_set _ _ _ _) (fun k e => .inl e)
          rw [hW2]
          clear hW2 h1 hg k0' k1' k2' f1' f2' hp k0 k1 k2 f1 f2 h
          obtain ⟨k0', k1', k2', -, -⟩ := h2.cells
          have k1'' : W2.cell? ⟨Q, 1, none⟩ = some (.int .i64 ((a : Int) + (s : Int) + (n : Int))) := by simpa using k1'
          clear k1'
          have hD : Below N W2 W2.drew := ⟨rfl, rfl, rfl, Nat.le_refl _, fun _ _ => rfl⟩
          have hmid := (h2.sl.mid' (a + s) n (by omega)).below hD
          have hlen : ((l.drop (a + s)).take n).length ≤ 1099511627776 := by simp; omega
          have hNle : N ≤ W2.heap.size := by have := h2.lt; have := h2.le; omega
          have hlc : l.length ≤ c := by obtain ⟨_, _, e, hc, _⟩ := h2.sl; cases e; exact hc
          unfold maxLen at hcm
          have hQ : Q < W2.heap.size := h2.lt
          have hwA : IntKind.i64.wrap ((a : Int) + (s : Int)) = (a : Int) + (s : Int) := by rw [IntKind.wrap_i64]; omega
          have hwB : IntKind.i64.wrap ((a : Int) + (s : Int) + (n : Int) - (n : Int)) = (a : Int) + (s : Int) := by rw [IntKind.wrap_i64]; omega
          have i1 : (0 : Int) ≤ (a : Int) + (s : Int) := by omega
          have i2 : (a : Int) + (s : Int) ≤ (a : Int) + (s : Int) + (n : Int) := by omega
          have i3 : (a : Int) + (s : Int) + (n : Int) ≤ (c : Int) := by omega
          have i4 : (0 : Int) ≤ (a : Int) + (s : Int) + (n : Int) := by omega
          have i5 : ((a : Int) + (s : Int) + (n : Int)).toNat = a + s + n := by omega
          have i6 : ((a : Int) + (s : Int)).toNat = a + s := by omega
          have i7 : a + s + n - (a + s) = n := by omega
          have hz0 : n = 0 → (l.drop (a + s)).take n = [] := fun h => by simp [h]
          generalize hT : (l.drop (a + s)).take n = T at *
          have HT : Hid ((l.drop (a + s)).take n = T) := hT
          clear hT
          have HX : Hid (∀ w3 u, Ow W2.heap.size w3 u T → Below W2.heap.size W2 w3 → Sl w3.heap.size w3 u T ∧ Rrd N w3 Q (.slice (some ⟨b, off, none⟩) l.length c) l (a + s + n) 0 ∧ w.grownBy w3 (some Q)) :=
            fun w3 u hO hB => ⟨hO.sl (Nat.le_refl _), h2.below hB (Nat.le_refl _), grown_trans hg2 (Below.grownBy' hB none) (by simp)⟩
          clear h2 hg2
          by_cases hcz : c = a + s
          · have hn0 : n = 0 := by omega
            have hT0 := hz0 hn0
            subst hcz hT0
            have hmid : Sl N W2.drew (.slice (some ⟨b, off, none⟩) n 0) [] := ⟨_, _, by rw [hn0]; rfl, by simp, by unfold maxLen; omega, .inl rfl⟩
            have j1 : (n : Int) ≤ 0 := by omega
            have j2 : (a : Int) + (s : Int) + (n : Int) ≤ (a : Int) + (s : Int) := by omega
            have j3 : n ≤ 0 := by omega
            clear hn0 i2 i3
            go_region_with (go_at_call 26; refine (bytes_any N _ _ _ hmid (by simpa using hNle) hlen).mono ?_; rintro r w3 ⟨u, rfl, hO3, hB3⟩; obtain ⟨a3, c3, rfl, -, -⟩ := hO3.shape)
            all_goals
              have hX := HX.out w3 _ hO3 ⟨hB3.os, hB3.tape, hB3.output, hB3.size, hB3.block⟩
              clear hO3 hB3 hmid
              go_wp2
              go_ret
              rw [HT.out]
              exact ⟨_, rfl, hX⟩
          · have hcz' : ¬ c - (a + s) = 0 := by omega
            have hcz2 : a + s < c := by omega
            have hcz3 : ¬ c ≤ a + s := by omega
            go_region_held3 (fun w' => w'.cell? ⟨Q, 0, none⟩ = some (.slice (some ⟨b, off, none⟩) l.length c) ∧ w'.cell? ⟨Q, 1, none⟩ = some (.int .i64 ((a : Int) + (s : Int) + (n : Int)))) (go_keep)
              (first | (go_at_call 26; refine (bytes_any N _ _ _ hmid (by simpa using hNle) hlen).mono ?_; rintro r w3 ⟨u, rfl, hO3, hB3⟩; obtain ⟨a3, c3, rfl, -, -⟩ := hO3.shape; have q0 := (hB3.cell (p := ⟨Q, 0, none⟩) hQ).trans k0'; have q1 := (hB3.cell (p := ⟨Q, 1, none⟩) hQ).trans k1''))
            have hX := HX.out w3 _ hO3 ⟨hB3.os, hB3.tape, hB3.output, hB3.size, hB3.block⟩
            clear q0 q1 hO3 hB3 hmid
            go_wp2
            go_ret
            rw [HT.out]
            exact ⟨_, rfl, hX⟩
  · rw [if_pos he]
    have he' : ((e' : Int) != 0) = true := by simp; omega
    have hs0 : s = 0 := (b5 he).2
    subst hs0
    clear b3 b5 hin hsl
    go_enter Try.func83, Try.ntmps83
    go_wp2_with (go_at_call 81; refine hp.mono ?_; rintro r w1 ⟨rfl, h1, hg⟩; obtain ⟨_, k1', k2', f1', f2'⟩ := h1.cells)
    go_ret
    exact ⟨_, rfl, Sl.nil _ _, h1, hg⟩
end Go.Proofs.Ytfnnbfgfmbiabab
