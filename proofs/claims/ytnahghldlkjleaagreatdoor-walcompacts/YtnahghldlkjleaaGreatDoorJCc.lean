/-
  The document's own reader: what each of its calls answers and leaves. The document's own reader: Bytes and Text. One call of a reader, held against the document's: true, and both stand in one state again. The document's own writer: what each of its calls leaves. What may be, and the texts of the plain kinds: as plain mathematics. The plain kinds: their texts, read and written, as plain mathematics. Checks of the plain kinds: the code's and the document's. Writers and readers that a call makes for itself: what each call leaves, where nothing below was turned. Put of the plain kinds, the code's and the document's. Put of the plain kinds, the code's and the document's. A read thing whole: what the generic function answers, at each kind. Get of the plain kinds, the code's and the document's. Get of the plain kinds, the code's and the document's. Whether two entries, two snapshots are the same: the document's.
-/
import Derived.Test.YtnahghldlkjleaaGreatDoorJCb
import Derived.Deep.RegionHeld3
import Derived.Handy
namespace Go.Proofs.YtnahghldlkjleaaGreatDoor.Cd
open Go.RowKit Go.Shelf

/-- Block Q holds the document's reader of the bytes l (which lie in v, below N), at the place a, with the error e. -/
structure Rrd (N : Nat) (W : World) (Q : Nat) (v : Value) (l : List UInt8) (a e : Nat) : Prop where
  le : N ≤ Q
  at0 : W.heap[Q]? = some (.cells #[v, .int .i64 (a : Int), .int .i64 (e : Int)] 235 (0, 0))
  sl : Sl N W v l

theorem Rrd.lt {N : Nat} {W : World} {Q : Nat} {v : Value} {l : List UInt8} {a e : Nat} (h : Rrd N W Q v l a e) : Q < W.heap.size := (Array.getElem?_eq_some_iff.1 h.at0).1

/-- It lies on, where another block is turned. -/
theorem Rrd.kept {N : Nat} {w w' : World} {Q : Nat} {v : Value} {l : List UInt8} {a e : Nat} {row : Option Nat} (h : Rrd N w Q v l a e) (hg : w.grownBy w' row) (hne : row ≠ some Q) (hrow : ∀ k, row = some k → N ≤ k) : Rrd N w' Q v l a e := by
  have hlt := h.lt
  have hle := h.le
  refine ⟨h.le, (hg.block Q hlt (fun e => hne e.symm)).trans h.at0, h.sl.below ⟨hg.os, hg.tape, hg.output, hg.size, fun k hk => hg.block k (by omega) (fun e => by have := hrow k e.symm; omega)⟩⟩

theorem Rrd.below {N B : Nat} {w w' : World} {Q : Nat} {v : Value} {l : List UInt8} {a e : Nat} (h : Rrd N w Q v l a e) (hB : Below B w w') (hs : w.heap.size ≤ B) : Rrd N w' Q v l a e :=
  h.kept (row := none) ⟨hB.os, hB.tape, hB.output, hB.size, fun k hk _ => hB.block k (by omega)⟩ (by simp) (by simp)

theorem Rrd.drewN {N : Nat} {w : World} {Q : Nat} {v : Value} {l : List UInt8} {a e : Nat} (h : Rrd N w Q v l a e) (n : Nat) : Rrd N (w.drewN n) Q v l a e := h.kept (row := none) (grown_drewN w n) (by simp) (by simp)

theorem Rrd.cells {N : Nat} {w : World} {Q : Nat} {v : Value} {l : List UInt8} {a e : Nat} (h : Rrd N w Q v l a e) :
    w.cell? ⟨Q, 0, none⟩ = some v ∧ w.cell? ⟨Q, 1, none⟩ = some (.int .i64 (a : Int)) ∧ w.cell? ⟨Q, 2, none⟩ = some (.int .i64 (e : Int)) ∧ w.frozen? ⟨Q, 1, none⟩ = false ∧ w.frozen? ⟨Q, 2, none⟩ = false := by
  have hR := h.at0
  exact ⟨by simp [World.cell?, hR], by simp [World.cell?, hR], by simp [World.cell?, hR], by simp [World.frozen?, hR], by simp [World.frozen?, hR]⟩

theorem Rrd.set {N : Nat} {w : World} {Q : Nat} {v : Value} {l : List UInt8} {a e : Nat} (h : Rrd N w Q v l a e) (o : Nat) (u : Value) : Sl N (w.setCell ⟨Q, o, none⟩ u) v l := by
  have hle := h.le
  exact h.sl.below ((Below.refl N w).setCell (p := ⟨Q, o, none⟩) hle u)

theorem Rrd.err {N : Nat} {w : World} {Q : Nat} {v : Value} {l : List UInt8} {a e : Nat} (h : Rrd N w Q v l a e) (e' : Nat) : Rrd N (w.setCell ⟨Q, 2, none⟩ (.int .i64 (e' : Int))) Q v l a e' := by
  have hlt := h.lt
  refine ⟨h.le, ?_, h.set _ _⟩
  show (w.heap.modify Q _)[Q]? = _
  rw [Array.getElem?_eq_getElem (by rw [Array.size_modify]; exact hlt), Array.getElem_modify_self, (Array.getElem?_eq_some_iff.1 h.at0).2]
  rfl

theorem Rrd.at' {N : Nat} {w : World} {Q : Nat} {v : Value} {l : List UInt8} {a e : Nat} (h : Rrd N w Q v l a e) (a' : Nat) : Rrd N (w.setCell ⟨Q, 1, none⟩ (.int .i64 (a' : Int))) Q v l a' e := by
  have hlt := h.lt
  refine ⟨h.le, ?_, h.set _ _⟩
  show (w.heap.modify Q _)[Q]? = _
  rw [Array.getElem?_eq_getElem (by rw [Array.size_modify]; exact hlt), Array.getElem_modify_self, (Array.getElem?_eq_some_iff.1 h.at0).2]
  rfl

set_option maxRecDepth 100000 in
set_option maxHeartbeats 1000000 in
/-- The document's Int of a reader. -/
theorem qInt_any (N Q : Nat) (v : Value) (l : List UInt8) (a e : Nat) (w : World) (h : Rrd N w Q v l a e) (hl : l.length ≤ 20000) (ha : a ≤ l.length) :
    Calls Tryz.prog 177 #[.pointer (some ⟨Q, 0, none⟩)] w fun r w' =>
      r = .returned (.int .i64 ((pk l a e).1 : Int)) ∧ Rrd N w' Q v l (a + (pk l a e).2.1) (pk l a e).2.2 ∧ w.grownBy w' (some Q) := by
  obtain ⟨k0, k1, k2, f1, f2⟩ := h.cells
  obtain ⟨av, c, rfl, -⟩ := id h.sl
  by_cases he : e = 0
  · subst he
    have hpk : pk l a 0 = intAt l a := rfl
    rw [hpk]
    have hbd := intAt_bd l a
    generalize hr : intAt l a = r at *
    have HR : Hid (intAt l a = r) := hr
    obtain ⟨n, s, e'⟩ := r
    obtain ⟨b1, b2, b3, -⟩ := hbd
    simp only at b1 b2 b3 ⊢
    have b4 := b3 ha
    clear hr hpk b3
    have hcall : ∀ nq, Calls Tryz.prog 226 #[.slice av l.length c, .int .i64 (a : Int)] (w.drewN nq) fun e w' => e = .returned (tup3 (n, s, e')) ∧ w' = w.drewN nq := fun nq => by
      have := refInt_any N _ l (a : Int) (w.drewN nq) (h.drewN nq).sl (by omega)
      rw [HR.out] at this; exact this
    unfold tup3 at hcall
    simp only at hcall
    have HC := hcall
    clear hcall
    go_enter Tryz.func177, Tryz.ntmps177
    go_wp2
    go_quiet ((go_at_call 226; exact Calls.quiet_of_same (HC _)))
    have HF : Hid (∀ nq, Rrd N (((w.drewN nq).setCell ⟨Q, 2, none⟩ (.int .i64 (e' : Int))).setCell ⟨Q, 1, none⟩ (.int .i64 ((a : Int) + (s : Int)))) Q (.slice av l.length c) l (a + s) e') := fun nq => by
      have := ((h.drewN nq).err e').at' (a + s)
      simpa using this
    have HG : Hid (∀ nq, w.grownBy (((w.drewN nq).setCell ⟨Q, 2, none⟩ (.int .i64 (e' : Int))).setCell ⟨Q, 1, none⟩ (.int .i64 ((a : Int) + (s : Int)))) (some Q)) := fun nq =>
      grown_trans (grown_trans (grown_trans (grown_refl w _) (grown_drewN w nq) (by simp)) (grown_set _ _ _ _) (fun k e => .inl e)) (grown_set _ _ _ _) (fun k e => .inl e)
    clear HC h
    go_wp2
    go_ret
    exact ⟨rfl, by simpa using HF.out _, by simpa using HG.out _⟩
  · have hpk : pk l a e = (0, 0, e) := by simp [pk, he]
    rw [hpk]
    have he' : ((e : Int) != 0) = true := by simp; omega
    go_enter Tryz.func177, Tryz.ntmps177
    go_wp2
    go_ret
    exact ⟨rfl, h, grown_refl w _⟩

set_option maxRecDepth 100000 in
set_option maxHeartbeats 1000000 in
theorem qLeft_any (N Q : Nat) (v : Value) (l : List UInt8) (a e : Nat) (w : World) (h : Rrd N w Q v l a e) (hl : l.length ≤ 20000) (ha : a ≤ l.length) :
    Calls Tryz.prog 227 #[.pointer (some ⟨Q, 0, none⟩)] w fun r w' => r = .returned (.int .i64 ((l.length : Int) - (a : Int))) ∧ ∃ n, w' = w.drewN n := by
  obtain ⟨k0, k1, k2, f1, f2⟩ := h.cells
  obtain ⟨av, c, rfl, -⟩ := id h.sl
  go_enter Tryz.func227, Tryz.ntmps227
  go_wp2
  go_quiet (fail)
  go_wp2
  go_ret
  exact ⟨rfl, _, rfl⟩

set_option maxRecDepth 100000 in
set_option maxHeartbeats 1000000 in
theorem qDone_any (N Q : Nat) (v : Value) (l : List UInt8) (a e : Nat) (w : World) (h : Rrd N w Q v l a e) (hl : l.length ≤ 20000) (ha : a ≤ l.length) :
    Calls Tryz.prog 178 #[.pointer (some ⟨Q, 0, none⟩)] w fun r w' => r = .returned (.int .i64 (doneE l a e : Int)) ∧ ∃ n, w' = w.drewN n := by
  obtain ⟨k0, k1, k2, f1, f2⟩ := h.cells
  by_cases he : e = 0
  · subst he
    by_cases hlt : a < l.length
    · have HE : Hid (doneE l a 0 = 3) := by show doneE l a 0 = 3; simp [doneE, hlt]
      go_enter Tryz.func178, Tryz.ntmps178
      go_wp2_with (go_at_call 227; refine (qLeft_any N Q v l a 0 w h hl ha).mono ?_; rintro r w1 ⟨rfl, n, rfl⟩)
      go_ret
      exact ⟨by rw [HE.out]; rfl, _, rfl⟩
    · have HE : Hid (doneE l a 0 = 0) := by show doneE l a 0 = 0; simp [doneE, hlt]
      go_enter Tryz.func178, Tryz.ntmps178
      go_wp2_with (go_at_call 227; refine (qLeft_any N Q v l a 0 w h hl ha).mono ?_; rintro r w1 ⟨rfl, n, rfl⟩)
      go_ret
      exact ⟨by rw [HE.out]; rfl, _, rfl⟩
  · have HE : Hid (doneE l a e = e) := by show doneE l a e = e; simp [doneE, he]
    have he' : ((e : Int) == 0) = false := by simp; omega
    go_enter Tryz.func178, Tryz.ntmps178
    go_wp2
    go_ret
    exact ⟨by rw [HE.out]; rfl, 0, rfl⟩
end Go.Proofs.YtnahghldlkjleaaGreatDoor.Cd
namespace Go.Proofs.YtnahghldlkjleaaGreatDoor.Cd
open Go.RowKit Go.Shelf

theorem Sl.mid' {M : Nat} {w : World} {b off cap : Nat} {l : List UInt8} (h : Sl M w (.slice (some ⟨b, off, none⟩) l.length cap) l) (a k : Nat) (hk : a + k ≤ l.length) : Sl M w (.slice (some ⟨b, off + a, none⟩) k (cap - a)) ((l.drop a).take k) := by
  obtain ⟨a', c, e, h1, h2, h3⟩ := h
  cases e
  have hlen : ((l.drop a).take k).length = k := by simp; omega
  refine ⟨_, _, by rw [hlen], by omega, by omega, ?_⟩
  rcases h3 with h3 | ⟨b', off', e, hb, hc⟩
  · subst h3; exact .inl (by simp)
  · cases e
    refine .inr ⟨b, off + a, rfl, hb, fun i hi => ?_⟩
    rw [hlen] at hi
    rw [Nat.add_assoc, hc (a + i) (by omega)]
    simp [hi, List.getElem?_drop]

set_option maxRecDepth 100000 in
set_option maxHeartbeats 4000000 in
theorem qBytes_any (N Q : Nat) (v : Value) (l : List UInt8) (a e : Nat) (most : Int) (w : World) (h : Rrd N w Q v l a e) (hl : l.length ≤ 20000) (ha : a ≤ l.length) :
    Calls Tryz.prog 179 #[.pointer (some ⟨Q, 0, none⟩), .int .i64 most] w fun r w' =>
      ∃ u, r = .returned u ∧ Sl w'.heap.size w' u (takeAt l a e most).1 ∧ Rrd N w' Q v l (takeAt l a e most).2.1 (takeAt l a e most).2.2 ∧ w.grownBy w' (some Q) := by
  have hp := qInt_any N Q v l a e w h hl ha
  have hbd := pk_bd l a e
  have hin := pk_in l a e
  obtain ⟨k0, k1, k2, f1, f2⟩ := h.cells
  obtain ⟨av, c, rfl, -, hcm, hsl⟩ := id h.sl
  unfold takeAt
  generalize pk l a e = p at *
  obtain ⟨n, s, e'⟩ := p
  obtain ⟨b1, b2, b3, b5⟩ := hbd
  simp only at hp b1 b2 b3 b5 hin ⊢
  have b4 := b3 ha
  by_cases he : e' = 0
  · subst he
    have hin' := hin rfl
    obtain ⟨b, off, rfl, -, -⟩ := hsl.resolve_left (by intro h; subst h; simp at hin')
    rw [if_neg (by simp)]
    clear hin b3 b5 hsl
    have hcase : (most < 0 ∧ max most 0 = 0) ∨ (¬ most < 0 ∧ max most 0 = most) := by omega
    rcases hcase with ⟨hneg, hmx⟩ | ⟨hneg, hmx⟩
    all_goals
      rw [hmx]
      clear hmx
    · by_cases hm : (0 : Int) < (n : Int)
      · rw [if_pos hm]
        go_enter Tryz.func179, Tryz.ntmps179
        go_wp2_with (go_at_call 177; refine hp.mono ?_; rintro r w1 ⟨rfl, h1, hg⟩; obtain ⟨_, k1', k2', f1', f2'⟩ := h1.cells)
        go_ret
        exact ⟨_, rfl, Sl.nil _ _, (h1.err 3).at' a, grown_trans (grown_trans hg (grown_set _ _ _ _) (fun k e => .inl e)) (grown_set _ _ _ _) (fun k e => .inl e)⟩
      · have hs : ¬ (l.length - (a + s) < n) := by omega
        rw [if_neg hm, if_neg hs]
        have hs' : (n : Int) ≤ (l.length : Int) - ((a : Int) + (s : Int)) := by omega
        go_enter Tryz.func179, Tryz.ntmps179
        go_wp2_with (go_at_call 177; refine hp.mono ?_; rintro r w1 ⟨rfl, h1, hg⟩; obtain ⟨k0', k1', k2', f1', f2'⟩ := h1.cells)
        go_quiet (fail)
        go_wp2
        obtain ⟨W2, hW2⟩ : ∃ W2, (w1.drewN nq).setCell ⟨Q, 1, none⟩ (.int .i64 ((a : Int) + (s : Int) + (n : Int))) = W2 := ⟨_, rfl⟩
        have h2 : Rrd N W2 Q (.slice (some ⟨b, off, none⟩) l.length c) l (a + s + n) 0 := by
          rw [← hW2]; simpa using (h1.drewN nq).at' (a + s + n)
        have hg2 : w.grownBy W2 (some Q) := by
          rw [← hW2]; exact grown_trans (grown_trans hg (grown_drewN w1 nq) (by simp)) (grown_set _ _ _ _) (fun k e => .inl e)
        rw [hW2]
        clear hW2 h1 hg k0' k1' k2' f1' f2' hp k0 k1 k2 f1 f2 h
        obtain ⟨k0', k1', k2', -, -⟩ := h2.cells
        have k1'' : W2.cell? ⟨Q, 1, none⟩ = some (.int .i64 ((a : Int) + (s : Int) + (n : Int))) := by simpa using k1'
        clear k1'
        have hD : Below N W2 W2.drew := ⟨rfl, rfl, rfl, Nat.le_refl _, fun _ _ => rfl⟩
        have hmid := (h2.sl.mid' (a + s) n (by omega)).below hD
        have hlen : ((l.drop (a + s)).take n).length ≤ 1099511627776 := by simp; omega
        have hNle : N ≤ W2.heap.size := by have := h2.lt; have := h2.le; omega
        have hlc : l.length ≤ c := by obtain ⟨_, _, e, hc, _⟩ := h2.sl; cases e; exact hc
        unfold maxLen at hcm
        have hQ : Q < W2.heap.size := h2.lt
        have hwA : IntKind.i64.wrap ((a : Int) + (s : Int)) = (a : Int) + (s : Int) := by rw [IntKind.wrap_i64]; omega
        have hwB : IntKind.i64.wrap ((a : Int) + (s : Int) + (n : Int) - (n : Int)) = (a : Int) + (s : Int) := by rw [IntKind.wrap_i64]; omega
        have i1 : (0 : Int) ≤ (a : Int) + (s : Int) := by omega
        have i2 : (a : Int) + (s : Int) ≤ (a : Int) + (s : Int) + (n : Int) := by omega
        have i3 : (a : Int) + (s : Int) + (n : Int) ≤ (c : Int) := by omega
        have i4 : (0 : Int) ≤ (a : Int) + (s : Int) + (n : Int) := by omega
        have i5 : ((a : Int) + (s : Int) + (n : Int)).toNat = a + s + n := by omega
        have i6 : ((a : Int) + (s : Int)).toNat = a + s := by omega
        have i7 : a + s + n - (a + s) = n := by omega
        have hz0 : n = 0 → (l.drop (a + s)).take n = [] := fun h => by simp [h]
        generalize hT : (l.drop (a + s)).take n = T at *
        have HT : Hid ((l.drop (a + s)).take n = T) := hT
        clear hT
        have HX : Hid (∀ w3 u, Ow W2.heap.size w3 u T → Below W2.heap.size W2 w3 → Sl w3.heap.size w3 u T ∧ Rrd N w3 Q (.slice (some ⟨b, off, none⟩) l.length c) l (a + s + n) 0 ∧ w.grownBy w3 (some Q)) :=
          fun w3 u hO hB => ⟨hO.sl (Nat.le_refl _), h2.below hB (Nat.le_refl _), grown_trans hg2 (Below.grownBy' hB none) (by simp)⟩
        clear h2 hg2
        by_cases hcz : c = a + s
        · have hn0 : n = 0 := by omega
          have hT0 := hz0 hn0
          subst hcz hT0
          have hmid : Sl N W2.drew (.slice (some ⟨b, off, none⟩) n 0) [] := ⟨_, _, by rw [hn0]; rfl, by simp, by unfold maxLen; omega, .inl rfl⟩
          have j1 : (n : Int) ≤ 0 := by omega
          have j2 : (a : Int) + (s : Int) + (n : Int) ≤ (a : Int) + (s : Int) := by omega
          have j3 : n ≤ 0 := by omega
          clear hn0 i2 i3
          go_region_with (go_at_call 44; refine (bytes_any N _ _ _ hmid (by simpa using hNle) hlen).mono ?_; rintro r w3 ⟨u, rfl, hO3, hB3⟩; obtain ⟨a3, c3, rfl, -, -⟩ := hO3.shape)
          all_goals
            have hX := HX.out w3 _ hO3 ⟨hB3.os, hB3.tape, hB3.output, hB3.size, hB3.block⟩
            clear hO3 hB3 hmid
            go_wp2
            go_ret
            rw [HT.out]
            exact ⟨_, rfl, hX⟩
        · have hcz' : ¬ c - (a + s) = 0 := by omega
          have hcz2 : a + s < c := by omega
          have hcz3 : ¬ c ≤ a + s := by omega
          go_region_held3 (fun w' => w'.cell? ⟨Q, 0, none⟩ = some (.slice (some ⟨b, off, none⟩) l.length c) ∧ w'.cell? ⟨Q, 1, none⟩ = some (.int .i64 ((a : Int) + (s : Int) + (n : Int)))) (go_keep)
            (first | (go_at_call 44; refine (bytes_any N _ _ _ hmid (by simpa using hNle) hlen).mono ?_; rintro r w3 ⟨u, rfl, hO3, hB3⟩; obtain ⟨a3, c3, rfl, -, -⟩ := hO3.shape; have q0 := (hB3.cell (p := ⟨Q, 0, none⟩) hQ).trans k0'; have q1 := (hB3.cell (p := ⟨Q, 1, none⟩) hQ).trans k1''))
          have hX := HX.out w3 _ hO3 ⟨hB3.os, hB3.tape, hB3.output, hB3.size, hB3.block⟩
          clear q0 q1 hO3 hB3 hmid
          go_wp2
          go_ret
          rw [HT.out]
          exact ⟨_, rfl, hX⟩
    · by_cases hm : most < (n : Int)
      · rw [if_pos hm]
        go_enter Tryz.func179, Tryz.ntmps179
        go_wp2_with (go_at_call 177; refine hp.mono ?_; rintro r w1 ⟨rfl, h1, hg⟩; obtain ⟨_, k1', k2', f1', f2'⟩ := h1.cells)
        go_ret
        exact ⟨_, rfl, Sl.nil _ _, (h1.err 3).at' a, grown_trans (grown_trans hg (grown_set _ _ _ _) (fun k e => .inl e)) (grown_set _ _ _ _) (fun k e => .inl e)⟩
      · rw [if_neg hm]
        by_cases hs : l.length - (a + s) < n
        · rw [if_pos hs]
          have hs' : (l.length : Int) - ((a : Int) + (s : Int)) < (n : Int) := by omega
          go_enter Tryz.func179, Tryz.ntmps179
          go_wp2_with (go_at_call 177; refine hp.mono ?_; rintro r w1 ⟨rfl, h1, hg⟩; obtain ⟨k0', k1', k2', f1', f2'⟩ := h1.cells)
          go_quiet (fail)
          go_wp2
          go_ret
          refine ⟨_, rfl, Sl.nil _ _, ?_, ?_⟩
          · have := (((h1.drewN nq).err 2).at' a); simpa using this
          · have := grown_trans (grown_trans (grown_trans hg (grown_drewN w1 nq) (by simp)) (grown_set _ Q 2 (.int .i64 2)) (fun k e => .inl e)) (grown_set _ Q 1 (.int .i64 (a : Int))) (fun k e => .inl e)
            simpa using this
        · rw [if_neg hs]
          have hs' : (n : Int) ≤ (l.length : Int) - ((a : Int) + (s : Int)) := by omega
          go_enter Tryz.func179, Tryz.ntmps179
          go_wp2_with (go_at_call 177; refine hp.mono ?_; rintro r w1 ⟨rfl, h1, hg⟩; obtain ⟨k0', k1', k2', f1', f2'⟩ := h1.cells)
          go_quiet (fail)
          go_wp2
          obtain ⟨W2, hW2⟩ : ∃ W2, (w1.drewN nq).setCell ⟨Q, 1, none⟩ (.int .i64 ((a : Int) + (s : Int) + (n : Int))) = W2 := ⟨_, rfl⟩
          have h2 : Rrd N W2 Q (.slice (some ⟨b, off, none⟩) l.length c) l (a + s + n) 0 := by
            rw [← hW2]; simpa using (h1.drewN nq).at' (a + s + n)
          have hg2 : w.grownBy W2 (some Q) := by
            rw [← hW2]; exact grown_trans (grown_trans hg (grown_drewN w1 nq) (by simp)) (grown_set _ _ _ _) (fun k e => .inl e)
          rw [hW2]
          clear hW2 h1 hg k0' k1' k2' f1' f2' hp k0 k1 k2 f1 f2 h
          obtain ⟨k0', k1', k2', -, -⟩ := h2.cells
          have k1'' : W2.cell? ⟨Q, 1, none⟩ = some (.int .i64 ((a : Int) + (s : Int) + (n : Int))) := by simpa using k1'
          clear k1'
          have hD : Below N W2 W2.drew := ⟨rfl, rfl, rfl, Nat.le_refl _, fun _ _ => rfl⟩
          have hmid := (h2.sl.mid' (a + s) n (by omega)).below hD
          have hlen : ((l.drop (a + s)).take n).length ≤ 1099511627776 := by simp; omega
          have hNle : N ≤ W2.heap.size := by have := h2.lt; have := h2.le; omega
          have hlc : l.length ≤ c := by obtain ⟨_, _, e, hc, _⟩ := h2.sl; cases e; exact hc
          unfold maxLen at hcm
          have hQ : Q < W2.heap.size := h2.lt
          have hwA : IntKind.i64.wrap ((a : Int) + (s : Int)) = (a : Int) + (s : Int) := by rw [IntKind.wrap_i64]; omega
          have hwB : IntKind.i64.wrap ((a : Int) + (s : Int) + (n : Int) - (n : Int)) = (a : Int) + (s : Int) := by rw [IntKind.wrap_i64]; omega
          have i1 : (0 : Int) ≤ (a : Int) + (s : Int) := by omega
          have i2 : (a : Int) + (s : Int) ≤ (a : Int) + (s : Int) + (n : Int) := by omega
          have i3 : (a : Int) + (s : Int) + (n : Int) ≤ (c : Int) := by omega
          have i4 : (0 : Int) ≤ (a : Int) + (s : Int) + (n : Int) := by omega
          have i5 : ((a : Int) + (s : Int) + (n : Int)).toNat = a + s + n := by omega
          have i6 : ((a : Int) + (s : Int)).toNat = a + s := by omega
          have i7 : a + s + n - (a + s) = n := by omega
          have hz0 : n = 0 → (l.drop (a + s)).take n = [] := fun h => by simp [h]
          generalize hT : (l.drop (a + s)).take n = T at *
          have HT : Hid ((l.drop (a + s)).take n = T) := hT
          clear hT
          have HX : Hid (∀ w3 u, Ow W2.heap.size w3 u T → Below W2.heap.size W2 w3 → Sl w3.heap.size w3 u T ∧ Rrd N w3 Q (.slice (some ⟨b, off, none⟩) l.length c) l (a + s + n) 0 ∧ w.grownBy w3 (some Q)) :=
            fun w3 u hO hB => ⟨hO.sl (Nat.le_refl _), h2.below hB (Nat.le_refl _), grown_trans hg2 (Below.grownBy' hB none) (by simp)⟩
          clear h2 hg2
          by_cases hcz : c = a + s
          · have hn0 : n = 0 := by omega
            have hT0 := hz0 hn0
            subst hcz hT0
            have hmid : Sl N W2.drew (.slice (some ⟨b, off, none⟩) n 0) [] := ⟨_, _, by rw [hn0]; rfl, by simp, by unfold maxLen; omega, .inl rfl⟩
            have j1 : (n : Int) ≤ 0 := by omega
            have j2 : (a : Int) + (s : Int) + (n : Int) ≤ (a : Int) + (s : Int) := by omega
            have j3 : n ≤ 0 := by omega
            clear hn0 i2 i3
            go_region_with (go_at_call 44; refine (bytes_any N _ _ _ hmid (by simpa using hNle) hlen).mono ?_; rintro r w3 ⟨u, rfl, hO3, hB3⟩; obtain ⟨a3, c3, rfl, -, -⟩ := hO3.shape)
            all_goals
              have hX := HX.out w3 _ hO3 ⟨hB3.os, hB3.tape, hB3.output, hB3.size, hB3.block⟩
              clear hO3 hB3 hmid
              go_wp2
              go_ret
              rw [HT.out]
              exact ⟨_, rfl, hX⟩
          · have hcz' : ¬ c - (a + s) = 0 := by omega
            have hcz2 : a + s < c := by omega
            have hcz3 : ¬ c ≤ a + s := by omega
            go_region_held3 (fun w' => w'.cell? ⟨Q, 0, none⟩ = some (.slice (some ⟨b, off, none⟩) l.length c) ∧ w'.cell? ⟨Q, 1, none⟩ = some (.int .i64 ((a : Int) + (s : Int) + (n : Int)))) (go_keep)
              (first | (go_at_call 44; refine (bytes_any N _ _ _ hmid (by simpa using hNle) hlen).mono ?_; rintro r w3 ⟨u, rfl, hO3, hB3⟩; obtain ⟨a3, c3, rfl, -, -⟩ := hO3.shape; have q0 := (hB3.cell (p := ⟨Q, 0, none⟩) hQ).trans k0'; have q1 := (hB3.cell (p := ⟨Q, 1, none⟩) hQ).trans k1''))
            have hX := HX.out w3 _ hO3 ⟨hB3.os, hB3.tape, hB3.output, hB3.size, hB3.block⟩
            clear q0 q1 hO3 hB3 hmid
            go_wp2
            go_ret
            rw [HT.out]
            exact ⟨_, rfl, hX⟩
  · rw [if_pos he]
    have he' : ((e' : Int) != 0) = true := by simp; omega
    have hs0 : s = 0 := (b5 he).2
    subst hs0
    clear b3 b5 hin hsl
    go_enter Tryz.func179, Tryz.ntmps179
    go_wp2_with (go_at_call 177; refine hp.mono ?_; rintro r w1 ⟨rfl, h1, hg⟩; obtain ⟨_, k1', k2', f1', f2'⟩ := h1.cells)
    go_ret
    exact ⟨_, rfl, Sl.nil _ _, h1, hg⟩
end Go.Proofs.YtnahghldlkjleaaGreatDoor.Cd
namespace Go.Proofs.YtnahghldlkjleaaGreatDoor.Cd
open Go.RowKit Go.Shelf

/-- A reader lies on, where another block is turned. -/
theorem Rdr.kept {N : Nat} {w w' : World} {R : Nat} {l : List UInt8} {a e k : Nat} (h : Rdr N w R l a e) (hg : w.grownBy w' (some k)) (hk : R < k ∨ ∃ cs t z, w.heap[k]? = some (.cells cs t z) ∧ t ≠ 5 ∧ t ≠ 310) : Rdr N w' R l a e := by
  have hlt := h.lt
  obtain ⟨hle, v, hR, hO, hvR⟩ := h
  have hne : k ≠ R := by
    rcases hk with hk | ⟨cs, t, z, h1, _, h3⟩
    · omega
    · intro e; subst e; rw [hR] at h1; simp at h1; exact h3 h1.2.1.symm
  refine ⟨hle, v, (hg.block R hlt (fun e => hne (by cases e; rfl))).trans hR, hO.kept hg (.inr ?_), hvR⟩
  rcases hk with hk | ⟨cs, t, z, h1, h2, _⟩
  · intro e; have := hvR k e; omega
  · exact hO.not_at h1 h2

theorem Rdr.at0 {N : Nat} {w : World} {R : Nat} {l : List UInt8} {a e : Nat} (h : Rdr N w R l a e) : ∃ cs z, w.heap[R]? = some (.cells cs 310 z) := by
  obtain ⟨_, v, hR, _⟩ := h; exact ⟨_, _, hR⟩

/-- Both readers in one state. -/
structure Both (N : Nat) (W : World) (R Q : Nat) (v : Value) (l : List UInt8) (a e : Nat) : Prop where
  r : Rdr N W R l a e
  q : Rrd N W Q v l a e
  le : a ≤ l.length

theorem takeAt_le (l : List UInt8) (a e : Nat) (most : Int) (ha : a ≤ l.length) : (takeAt l a e most).2.1 ≤ l.length := by
  have hb := pk_bd l a e
  unfold takeAt
  split
  · exact ha
  · split
    · exact ha
    · split
      · exact ha
      · have := hb.2.2.1 ha; simp only; omega

theorem boolAt_le (l : List UInt8) (a e : Nat) (ha : a ≤ l.length) : (boolAt l a e).2.1 ≤ l.length := by
  have hb := pk_bd l a e
  unfold boolAt
  split
  · exact ha
  · exact hb.2.2.1 ha

theorem Both.ne {N : Nat} {W : World} {R Q : Nat} {v : Value} {l : List UInt8} {a e a' e' : Nat} (h : Rdr N W R l a e) (hq : Rrd N W Q v l a' e') : R ≠ Q := by
  obtain ⟨cs, z, hR⟩ := h.at0
  intro e; subst e
  have := hq.at0
  rw [hR] at this; simp at this

/-- A call of the one, then of the other. -/
theorem Both.two {N : Nat} {w w1 w2 : World} {R Q : Nat} {v : Value} {l : List UInt8} {a e a' e' : Nat} (h : Both N w R Q v l a e) (h1 : Rdr N w1 R l a' e') (g1 : w.grownBy w1 (some R)) (h2 : Rrd N w2 Q v l a' e') (g2 : w1.grownBy w2 (some Q)) (ha : a' ≤ l.length) :
    Both N w2 R Q v l a' e' ∧ Below N w w2 := by
  have hq1 : Rrd N w1 Q v l a e := h.q.kept g1 (by simpa using Both.ne h.r h.q) (fun k e => by cases e; exact h.r.le)
  refine ⟨⟨h1.kept g2 (.inr ⟨_, _, _, hq1.at0, by decide, by decide⟩), h2, ha⟩, ?_⟩
  have hz := h.r.lt
  have hz' := h.r.le
  have hz1 := g1.size
  exact ((Below.refl N w).grown g1 (by omega) (fun k e => by cases e; exact h.r.le)).grown g2 (by omega) (fun k e => by cases e; exact h.q.le)

theorem Both.mid {N : Nat} {w w1 : World} {R Q : Nat} {v : Value} {l : List UInt8} {a e : Nat} (h : Both N w R Q v l a e) (g1 : w.grownBy w1 (some R)) : Rrd N w1 Q v l a e :=
  h.q.kept g1 (by simpa using Both.ne h.r h.q) (fun k e => by cases e; exact h.r.le)

theorem Both.alloc {N : Nat} {w : World} {R Q : Nat} {v : Value} {l : List UInt8} {a e : Nat} (h : Both N w R Q v l a e) (o : Obj) : Both N (w.alloc o) R Q v l a e := by
  have hb : Below w.heap.size w (w.alloc o) := (Below.refl _ w).alloc (Nat.le_refl _) o
  exact ⟨h.r.below hb (Nat.le_refl _), h.q.below hb (Nat.le_refl _), h.le⟩

theorem Both.drewN {N : Nat} {w : World} {R Q : Nat} {v : Value} {l : List UInt8} {a e : Nat} (h : Both N w R Q v l a e) (n : Nat) : Both N (w.drewN n) R Q v l a e := ⟨h.r.drewN n, h.q.drewN n, h.le⟩

/-- One byte of bytes of the call's own is written over. -/
theorem Ow.store {N : Nat} {w : World} {g cap : Nat} {l : List UInt8} (h : Ow N w (.slice (some ⟨g, 0, none⟩) l.length cap) l) (k : Nat) (x : UInt8) :
    Ow N (w.setCell ⟨g, k, none⟩ (encB x)) (.slice (some ⟨g, 0, none⟩) l.length cap) (l.set k x) := by
  rcases h.2 with ⟨h0, h1⟩ | ⟨g', cap', cur, hv, hg, hh, hc1, hc2, hc3, hc4⟩
  · cases h0
  · cases hv
    refine ⟨by simp, .inr ⟨g, cap, cur.set! k (encB x), by simp, hg, ?_, by simpa using hc1, hc2, by simpa using hc3, ?_⟩⟩
    · obtain ⟨hlt, he⟩ := Array.getElem?_eq_some_iff.1 hh
      show (w.heap.modify g _)[g]? = _
      rw [Array.getElem?_eq_getElem (by rw [Array.size_modify]; exact hlt), Array.getElem_modify_self, he]
      simp
    · simp only [Nat.mul_one, List.length_set] at hc4 ⊢
      rw [Array.set!_eq_setIfInBounds, Array.toList_setIfInBounds, List.take_set, hc4, List.map_set]

theorem Ow.can {N : Nat} {w : World} {g cap : Nat} {l : List UInt8} (h : Ow N w (.slice (some ⟨g, 0, none⟩) l.length cap) l) (k : Nat) (hk : k < l.length) : w.cell? ⟨g, k, none⟩ = some (encB (byteAt l k)) ∧ w.frozen? ⟨g, k, none⟩ = false ∧ N ≤ g := by
  obtain ⟨g', e, _, _, _, hc⟩ := h.at0 (by omega)
  cases e
  refine ⟨by have := hc k hk; rw [Nat.zero_add] at this; exact this, ?_, ?_⟩
  · rcases h.2 with ⟨h0, _⟩ | ⟨g', cap', cur, hv, hg, hh, _⟩
    · cases h0
    · cases hv; simp [World.frozen?, hh]
  · exact (World.ownsRow.lt h g rfl).1

theorem Both.set {N : Nat} {w : World} {R Q : Nat} {v : Value} {l : List UInt8} {a e : Nat} (h : Both N w R Q v l a e) (g k : Nat) (u : Value) (hR : R < g) (hQ : Q < g) : Both N (w.setCell ⟨g, k, none⟩ u) R Q v l a e :=
  ⟨h.r.kept (grown_set w g k u) (.inl hR), h.q.kept (grown_set w g k u) (by simp; omega) (fun k e => by cases e; have := h.q.le; omega), h.le⟩

end Go.Proofs.YtnahghldlkjleaaGreatDoor.Cd
namespace Go.Proofs.YtnahghldlkjleaaGreatDoor.Cd
open Go.RowKit Go.Shelf

def putN (n : Int) : Nat := if isNumB n then 0 else 1
theorem putE_N (n : Int) : putE n = (putN n : Int) := by unfold putE putN; split <;> rfl

/-- What the document's writer has, and its error, behind a number. -/
def vInt (l : List UInt8) (e : Nat) (n : Int) : List UInt8 × Nat := if e ≠ 0 then (l, e) else (l ++ putB n, putN n)
def vBytes (l : List UInt8) (e : Nat) (m : List UInt8) (most : Int) : List UInt8 × Nat := if e ≠ 0 then (l, e) else if max most 0 < (m.length : Int) then (l, 3) else (l ++ numB m.length ++ m, 0)

set_option maxRecDepth 100000 in
set_option maxHeartbeats 1000000 in
theorem vvInt_any (N B : Nat) (v : Value) (l : List UInt8) (e : Nat) (n : Int) (w : World) (h : Wtr 242 N w B v l e) (hl : l.length ≤ 1073741824) :
    Calls Tryz.prog 184 #[.pointer (some ⟨B, 0, none⟩), .int .i64 n] w fun r w' => r = .returned (.tuple #[]) ∧ ∃ v', Wtr 242 N w' B v' (vInt l e n).1 (vInt l e n).2 ∧ Tn w w' B v ∧ Son w v v' := by
  obtain ⟨k0, k1, f0, f1⟩ := h.cells
  have hlt := h.lt
  have hle := h.le
  obtain ⟨b, c, hv, -, -⟩ := h.ow.shape
  unfold vInt
  by_cases he : e = 0
  · subst he
    rw [if_neg (by simp)]
    have hpl := putB_len n
    have hE := putE_N n
    subst hv
    go_enter Tryz.func184, Tryz.ntmps184
    go_wp2_with fail
    refine (refPut_any n _).mono ?_
    rintro r w1 ⟨p, rfl, hOp, hB1⟩
    rw [hE]
    have hz1 := hB1.size
    have h1 := h.below hB1 (Nat.le_refl _)
    have h2 := h1.err (by decide) (putN n)
    have hTs : Tn w (w1.setCell ⟨B, 1, none⟩ (.int .i64 (putN n : Int))) B (.slice b l.length c) := (Tn.of_below hB1).set 1 _
    have hpB : p.ownBlock ≠ some B := fun e => by have := (World.ownsRow.lt hOp B e).1; omega
    have hO2 : Ow w.heap.size (w1.setCell ⟨B, 1, none⟩ (.int .i64 (putN n : Int))) p (putB n) := hOp.kept (grown_set w1 B 1 _) (.inr hpB)
    obtain ⟨bp, cp, rfl, -, -⟩ := hOp.shape
    obtain ⟨q0, q1, e0, e1⟩ := h1.cells
    obtain ⟨W2, hW2⟩ : ∃ W2, w1.setCell ⟨B, 1, none⟩ (.int .i64 (putN n : Int)) = W2 := ⟨_, rfl⟩
    rw [hW2] at h2 hTs hO2
    obtain ⟨m0, m1, n0, n1⟩ := h2.cells
    have hz2 := hTs.size
    have hs2 := hO2.sl (Nat.le_refl W2.heap.size)
    clear hOp hB1 h1 hpB hO2 hE
    generalize (putN n : Int) = pe at *
    generalize hpb : putB n = pb at *
    go_wp2_with (at_builtin; refine wpList_append_ow rfl _ _ rfl N W2.heap.size _ _ l pb rfl h2.ow rfl hs2 (by omega) (by omega) ?_; intro v2 w2 hO2 hg2 hn2; obtain ⟨b2, c2, hv2, -, -⟩ := hO2.shape; rw [List.length_append] at hv2; subst hv2; have h3 := (hg2.block B h2.lt (fun e => h2.ow.not_at h2.at0 (by decide) e.symm)).trans h2.at0; have hf2 := frozen_at0 h3; have hc2 := cell_at0 h3)
    go_end0
    have hT2 : Tn W2 w2 B (.slice b l.length c) := Tn.of_grown hg2 (fun k e => .inr e)
    rw [hpb]
    refine ⟨rfl, _, Wtr.mk' (by decide) hle h3 hO2, (hTs.trans (Son.refl _ _) hT2).set 0 _, ?_⟩
    rcases hn2 with hn2 | hn2
    · exact .inr (.inl hn2)
    · exact .inr (.inr ⟨_, hn2, hz2⟩)
  · rw [if_pos he]
    have he' : ((e : Int) != 0) = true := by simp; omega
    go_enter Tryz.func184, Tryz.ntmps184
    go_wp2
    refine bodyPost_ret (results_none rfl _ _ _) rfl ?_
    exact ⟨rfl, v, h, Tn.refl _ _ _, Son.refl _ _⟩

theorem vInt_len (l : List UInt8) (n : Nat) (h : n ≤ 1073741824) : vInt l 0 (n : Int) = (l ++ numB n, 0) := by
  have hN : isNumB (n : Int) = true := by simp [isNumB]; omega
  simp [vInt, putB, putN, hN]

set_option maxRecDepth 100000 in
set_option maxHeartbeats 2000000 in
theorem vvBytes_any (N B M : Nat) (v x : Value) (l m : List UInt8) (e : Nat) (most : Int) (w : World) (h : Wtr 242 N w B v l e) (hl : l.length ≤ 1073740824) (hm : m.length ≤ 1073741824)
    (hx : Sl M w x m) (hM : M ≤ w.heap.size) (hxd : m ≠ [] → x.ownBlock ≠ some B ∧ ∀ k, x.ownBlock = some k → v.ownBlock ≠ some k) :
    Calls Tryz.prog 186 #[.pointer (some ⟨B, 0, none⟩), x, .int .i64 most] w fun r w' => r = .returned (.tuple #[]) ∧ ∃ v', Wtr 242 N w' B v' (vBytes l e m most).1 (vBytes l e m most).2 ∧ Tn w w' B v ∧ Son w v v' := by
  obtain ⟨k0, k1, f0, f1⟩ := h.cells
  have hlt := h.lt
  have hle := h.le
  obtain ⟨b, c, hv, -, -⟩ := h.ow.shape
  obtain ⟨bx, cx, hxx, -⟩ := id hx
  subst hxx
  unfold vBytes
  by_cases he : e = 0
  · subst he
    rw [if_neg (by simp)]
    have hcase : (most < 0 ∧ max most 0 = 0) ∨ (¬ most < 0 ∧ max most 0 = most) := by omega
    have hmost : ∃ mm : Int, max most 0 = mm ∧ ((most < 0 ∧ mm = 0) ∨ (¬ most < 0 ∧ mm = most)) := ⟨_, rfl, hcase⟩
    obtain ⟨mm, hmm, hcase'⟩ := hmost
    rw [hmm]
    by_cases hbig : mm < (m.length : Int)
    · rw [if_pos hbig]
      subst hv
      have HW : Hid (Wtr 242 N (w.setCell ⟨B, 1, none⟩ (.int .i64 3)) B (.slice b l.length c) l 3) := h.err (by decide) 3
      have HT : Hid (Tn w (w.setCell ⟨B, 1, none⟩ (.int .i64 3)) B (.slice b l.length c)) := (Tn.refl w B _).set 1 _
      clear hmm hcase
      rcases hcase' with ⟨hneg, rfl⟩ | ⟨hneg, rfl⟩
      all_goals
        go_enter Tryz.func186, Tryz.ntmps186
        go_wp2
        refine bodyPost_ret (results_none rfl _ _ _) rfl ?_
        exact ⟨rfl, _, HW.out, HT.out, Son.refl _ _⟩
    · rw [if_neg hbig]
      clear hmm hcase
      have hnb := num_len_le 9 m.length
      have hlen : (l ++ numB m.length).length = l.length + (numB m.length).length := List.length_append
      have cI := vvInt_any N B v l 0 (m.length : Int) w h (by omega)
      rw [vInt_len l m.length (by omega)] at cI
      simp only at cI
      rcases hcase' with ⟨hneg, rfl⟩ | ⟨hneg, rfl⟩
      all_goals
        go_enter Tryz.func186, Tryz.ntmps186
        go_wp2_with fail
        refine cI.mono ?_
        rintro r w1 ⟨rfl, v1, h1, hT1, hS1⟩
        have hx1 := hx.tn hM hT1 hxd
        obtain ⟨b1, c1, hv1, -, -⟩ := h1.ow.shape
        rw [hlen] at hv1
        subst hv1
        have hz1 := hT1.size
        obtain ⟨q0, q1, e0, e1⟩ := h1.cells
        clear k0 k1 f0 f1
        go_wp2_with (at_builtin; refine wpList_append_ow rfl _ _ rfl N M _ _ (l ++ numB m.length) m rfl h1.ow rfl hx1 (by rw [hlen]; unfold numB; omega) (by omega) ?_; intro v2 w2 hO2 hg2 hn2; obtain ⟨b2, c2, hv2, -, -⟩ := hO2.shape; rw [List.length_append, hlen] at hv2; subst hv2; have h2 := (hg2.block B h1.lt (fun e => h1.ow.not_at h1.at0 (by decide) e.symm)).trans h1.at0; have hf2 := frozen_at0 h2; have hc2 := cell_at0 h2)
        go_end0
        have hT2 : Tn w1 w2 B (.slice b1 (l.length + (numB m.length).length) c1) := Tn.of_grown hg2 (fun k e => .inr e)
        refine ⟨rfl, _, Wtr.mk' (e := 0) (by decide) hle h2 hO2, (hT1.trans hS1 hT2).set 0 _, hS1.trans hz1 ?_⟩
        rcases hn2 with hn2 | hn2
        · exact .inr (.inl hn2)
        · exact .inr (.inr ⟨_, hn2, Nat.le_refl _⟩)
  · rw [if_pos he]
    have he' : ((e : Int) != 0) = true := by simp; omega
    go_enter Tryz.func186, Tryz.ntmps186
    go_wp2
    refine bodyPost_ret (results_none rfl _ _ _) rfl ?_
    exact ⟨rfl, v, h, Tn.refl _ _ _, Son.refl _ _⟩

set_option maxRecDepth 100000 in
set_option maxHeartbeats 2000000 in
theorem vvDone_any (N B : Nat) (v : Value) (l : List UInt8) (e : Nat) (w : World) (h : Wtr 242 N w B v l e) :
    Calls Tryz.prog 182 #[.pointer (some ⟨B, 0, none⟩)] w fun r w' => ∃ u, r = .returned (.tuple #[u, .int .i64 (e : Int)]) ∧ Sl w'.heap.size w' u (if e = 0 then l else []) ∧ ∃ n, w' = w.drewN n := by
  obtain ⟨k0, k1, f0, f1⟩ := h.cells
  have hs := h.ow.sl (Nat.le_refl w.heap.size)
  obtain ⟨b, c, rfl, -, -⟩ := h.ow.shape
  by_cases he : e = 0
  · subst he
    rw [if_pos rfl]
    clear h
    go_enter Tryz.func182, Tryz.ntmps182
    go_wp2
    go_ret2
    exact ⟨_, rfl, hs, 0, rfl⟩
  · rw [if_neg he]
    have he' : ((e : Int) != 0) = true := by simp; omega
    clear h hs
    go_enter Tryz.func182, Tryz.ntmps182
    go_wp2
    go_region
    go_wp2
    go_ret2
    exact ⟨_, rfl, Sl.nil _ _, 1, rfl⟩
end Go.Proofs.YtnahghldlkjleaaGreatDoor.Cd
namespace Go.Proofs.YtnahghldlkjleaaGreatDoor.Cd
open Go.RowKit Go.Shelf

/-- Is a number from one to another? -/
def isIn (n a b : Int) : Bool := decide (a ≤ n) && decide (n ≤ b)

/-- What may be of a state. -/
def ckState (t v c : Int) : Nat :=
  if isIn t 0 4611686018427387904 = false then 1 else if isIn c 0 4611686018427387904 = false then 1 else if isIn v 0 7 = false then 1
  else if v ≠ 0 ∧ t = 0 then 4 else 0

/-- What may be of a snapshot, of an entry, of a reply, of a command. -/
def ckSnap (i t : Int) (n : Nat) : Nat :=
  if i = 0 ∧ t = 0 ∧ n = 0 then 0 else if isIn i 1 4611686018427387904 = false then 1 else if isIn t 1 4611686018427387904 = false then 1 else if (524288 : Int) < (n : Int) then 3 else 0
def ckEntry (t i k : Int) (n : Nat) : Nat :=
  if isIn t 1 4611686018427387904 = false then 1 else if isIn i 1 4611686018427387904 = false then 1 else if k ≠ 0 ∧ k ≠ 1 then 6 else if (4096 : Int) < (n : Int) then 3 else if k = 0 ∧ (0 : Int) < (n : Int) then 4 else 0
def ckReply (c : Int) (n : Nat) : Nat := if isIn c 1 10 = false then 6 else if (1024 : Int) < (n : Int) then 3 else 0
def ckCommand (o c s : Int) (k v d : List UInt8) : Nat :=
  if isIn o 2 4 = false then 6 else if isIn c 1 4611686018427387904 = false then 1 else if isIn s 1 4611686018427387904 = false then 1
  else if (64 : Int) < (k.length : Int) then 3 else if (1024 : Int) < (v.length : Int) then 3 else if (1024 : Int) < (d.length : Int) then 3
  else if k = [] then 4 else if v ≠ [] ∧ o = 3 then 4 else if d ≠ [] ∧ o ≠ 4 then 4 else 0

/-- A state's text. -/
def txState (t v c : Int) : List UInt8 := numB t.toNat ++ numB v.toNat ++ numB c.toNat

/-- A number is read: it, the place behind it, the error. -/
def rdN (l : List UInt8) (s : Nat × Nat) : Nat × (Nat × Nat) := ((pk l s.1 s.2).1, (s.1 + (pk l s.1 s.2).2.1, (pk l s.1 s.2).2.2))
/-- Bytes are read. -/
def rdB (l : List UInt8) (most : Int) (s : Nat × Nat) : List UInt8 × (Nat × Nat) := ((takeAt l s.1 s.2 most).1, ((takeAt l s.1 s.2 most).2.1, (takeAt l s.1 s.2 most).2.2))

theorem rdN_le (l : List UInt8) (s : Nat × Nat) (h : s.1 ≤ l.length) : (rdN l s).2.1 ≤ l.length := (pk_bd l s.1 s.2).2.2.1 h
theorem rdB_le (l : List UInt8) (most : Int) (s : Nat × Nat) (h : s.1 ≤ l.length) : (rdB l most s).2.1 ≤ l.length := takeAt_le l s.1 s.2 most h

theorem isIn_num (n a b : Int) (ha : 0 ≤ a) (hb : b ≤ 4611686018427387904) (h : isIn n a b = true) : isNumB n = true ∧ 0 ≤ n ∧ n ≤ b ∧ a ≤ n := by
  simp [isIn] at h
  refine ⟨by simp [isNumB]; omega, by omega, h.2, h.1⟩

theorem wInt_ok (l : List UInt8) (n : Int) (h : isNumB n = true) : wInt l 0 n = (l ++ numB n.toNat, 0) := by simp [wInt, h]
theorem vInt_ok (l : List UInt8) (n : Int) (h : isNumB n = true) : vInt l 0 n = (l ++ numB n.toNat, 0) := by simp [vInt, putB, putN, h]

theorem rdN_mid (pre : List UInt8) (n : Nat) (t : List UInt8) (h : n ≤ 4611686018427387904) : rdN (pre ++ (numB n ++ t)) (pre.length, 0) = (n, ((pre ++ numB n).length, 0)) := by
  unfold rdN; simp only; rw [pk_mid pre n t h]; simp
theorem rdB_mid (pre m t : List UInt8) (most : Int) (hm : m.length ≤ 1073741824) (hmost : (m.length : Int) ≤ most) : rdB (pre ++ (numB m.length ++ m ++ t)) most (pre.length, 0) = (m, ((pre ++ (numB m.length ++ m)).length, 0)) := by
  unfold rdB; simp only; rw [takeAt_mid pre m t most hm (by omega)]; simp; omega

/-- A state, read. -/
def rdState (l : List UInt8) : (Nat × Nat × Nat) × (Nat × Nat) :=
  ((( rdN l (0, 0)).1, (rdN l (rdN l (0, 0)).2).1, (rdN l (rdN l (rdN l (0, 0)).2).2).1), (rdN l (rdN l (rdN l (0, 0)).2).2).2)
/-- Get's error of a state, and the state. -/
def geState (l : List UInt8) : Nat :=
  if doneE l (rdState l).2.1 (rdState l).2.2 = 0 then ckState ((rdState l).1.1 : Int) ((rdState l).1.2.1 : Int) ((rdState l).1.2.2 : Int) else doneE l (rdState l).2.1 (rdState l).2.2
def goState (l : List UInt8) : Nat × Nat × Nat := if geState l = 0 then (rdState l).1 else (0, 0, 0)

theorem doneE_end (l : List UInt8) : doneE l l.length 0 = 0 := by simp [doneE]

theorem ckState_ok {t v c : Int} (h : ckState t v c = 0) : isIn t 0 4611686018427387904 = true ∧ isIn c 0 4611686018427387904 = true ∧ isIn v 0 7 = true := by
  unfold ckState at h
  cases h1 : isIn t 0 4611686018427387904 <;> cases h2 : isIn c 0 4611686018427387904 <;> cases h3 : isIn v 0 7 <;> simp [h1, h2, h3] at h ⊢

theorem rdState_tx (t v c : Nat) (ht : t ≤ 4611686018427387904) (hv : v ≤ 4611686018427387904) (hc : c ≤ 4611686018427387904) : rdState (numB t ++ numB v ++ numB c) = ((t, v, c), ((numB t ++ numB v ++ numB c).length, 0)) := by
  have h1 := rdN_mid [] t (numB v ++ numB c) ht
  have h2 := rdN_mid (numB t) v (numB c) hv
  have h3 := rdN_mid (numB t ++ numB v) c [] hc
  simp only [List.nil_append, List.append_nil, List.append_assoc, List.length_nil] at h1 h2 h3
  unfold rdState
  simp only [List.append_assoc]
  rw [h1]; simp only
  rw [h2]; simp only
  rw [h3]

theorem geState_tx {t v c : Int} (h : ckState t v c = 0) : geState (txState t v c) = 0 ∧ goState (txState t v c) = (t.toNat, v.toNat, c.toNat) := by
  obtain ⟨h1, h2, h3⟩ := ckState_ok h
  have i1 := isIn_num _ _ _ (by omega) (by omega) h1
  have i2 := isIn_num _ _ _ (by omega) (by omega) h2
  have i3 := isIn_num _ _ _ (by omega) (by omega) h3
  have hr := rdState_tx t.toNat v.toNat c.toNat (by omega) (by omega) (by omega)
  have e1 : ((t.toNat : Nat) : Int) = t := by omega
  have e2 : ((v.toNat : Nat) : Int) = v := by omega
  have e3 : ((c.toNat : Nat) : Int) = c := by omega
  have hg : geState (txState t v c) = 0 := by
    unfold geState txState
    rw [hr]; simp only; rw [if_pos (doneE_end _), e1, e2, e3, h]
  refine ⟨hg, ?_⟩
  unfold goState
  rw [if_pos hg]
  unfold txState
  rw [hr]
end Go.Proofs.YtnahghldlkjleaaGreatDoor.Cd
namespace Go.Proofs.YtnahghldlkjleaaGreatDoor.Cd
open Go.RowKit Go.Shelf

theorem numB_len (n : Nat) : (numB n).length ≤ 10 := num_len_le 9 n
theorem ckState_nums {t v c : Int} (h : ckState t v c = 0) : isNumB t = true ∧ isNumB v = true ∧ isNumB c = true := by
  obtain ⟨h1, h2, h3⟩ := ckState_ok h
  exact ⟨(isIn_num _ _ _ (by omega) (by omega) h1).1, (isIn_num _ _ _ (by omega) (by omega) h3).1, (isIn_num _ _ _ (by omega) (by omega) h2).1⟩
theorem txState_len (t v c : Int) : (txState t v c).length ≤ 30 := by
  have hbt := numB_len t.toNat
  have hbv := numB_len v.toNat
  have hbc := numB_len c.toNat
  simp [txState]; omega

def txReply (c : Int) (m : List UInt8) : List UInt8 := numB c.toNat ++ (numB m.length ++ m)
def rdReply (l : List UInt8) : (Nat × List UInt8) × (Nat × Nat) := (((rdN l (0, 0)).1, (rdB l 1024 (rdN l (0, 0)).2).1), (rdB l 1024 (rdN l (0, 0)).2).2)
def geReply (l : List UInt8) : Nat := if doneE l (rdReply l).2.1 (rdReply l).2.2 = 0 then ckReply ((rdReply l).1.1 : Int) ((rdReply l).1.2).length else doneE l (rdReply l).2.1 (rdReply l).2.2
def goReply (l : List UInt8) : Nat × List UInt8 := if geReply l = 0 then (rdReply l).1 else (0, [])
theorem ckReply_ok {c : Int} {n : Nat} (h : ckReply c n = 0) : isNumB c = true ∧ (n : Int) ≤ 1024 := by
  unfold ckReply at h
  cases h1 : isIn c 1 10 <;> simp only [h1, if_true, if_false, Bool.true_eq_false] at h <;> try (simp at h; done)
  refine ⟨(isIn_num _ _ _ (by omega) (by omega) h1).1, ?_⟩
  by_cases hn : (1024 : Int) < (n : Int)
  · rw [if_pos hn] at h; simp at h
  · omega
theorem rdReply_tx (c : Nat) (m : List UInt8) (hc : c ≤ 4611686018427387904) (hm : (m.length : Int) ≤ 1024) : rdReply (numB c ++ (numB m.length ++ m)) = ((c, m), ((numB c ++ (numB m.length ++ m)).length, 0)) := by
  have e0 := rdN_mid ([]) c ((numB m.length ++ m)) hc
  have e1 := rdB_mid (numB c) m ([]) 1024 (by omega) hm
  simp only [List.nil_append, List.append_nil, List.length_nil] at e0 e1
  unfold rdReply
  rw [e0]; simp only
  rw [e1]

theorem geReply_tx {c : Int} {m : List UInt8} (h : ckReply c m.length = 0) : geReply (txReply c m) = 0 ∧ goReply (txReply c m) = (c.toNat, m) := by
  obtain ⟨kc, km⟩ := ckReply_ok h
  have rc : 0 ≤ c ∧ c ≤ 4611686018427387904 := by simpa [isNumB] using kc
  have cc : ((c.toNat : Nat) : Int) = c := by omega
  have hr := rdReply_tx c.toNat m (by omega) km
  have hg : geReply (txReply c m) = 0 := by
    unfold geReply txReply
    rw [hr]; simp only; rw [if_pos (doneE_end _), cc, h]
  refine ⟨hg, ?_⟩
  unfold goReply
  rw [if_pos hg]
  unfold txReply
  rw [hr]
theorem txReply_len (c : Int) (m : List UInt8) : (txReply c m).length ≤ 20 + m.length := by
  have hbc := numB_len c.toNat
  have hbm := numB_len m.length
  simp [txReply]; omega

def txSnap (i t : Int) (m : List UInt8) : List UInt8 := numB i.toNat ++ numB t.toNat ++ (numB m.length ++ m)
def rdSnap (l : List UInt8) : (Nat × Nat × List UInt8) × (Nat × Nat) := (((rdN l (0, 0)).1, (rdN l (rdN l (0, 0)).2).1, (rdB l 524288 (rdN l (rdN l (0, 0)).2).2).1), (rdB l 524288 (rdN l (rdN l (0, 0)).2).2).2)
def geSnap (l : List UInt8) : Nat := if doneE l (rdSnap l).2.1 (rdSnap l).2.2 = 0 then ckSnap ((rdSnap l).1.1 : Int) ((rdSnap l).1.2.1 : Int) ((rdSnap l).1.2.2).length else doneE l (rdSnap l).2.1 (rdSnap l).2.2
def goSnap (l : List UInt8) : Nat × Nat × List UInt8 := if geSnap l = 0 then (rdSnap l).1 else (0, 0, [])
theorem ckSnap_ok {i t : Int} {n : Nat} (h : ckSnap i t n = 0) : isNumB i = true ∧ isNumB t = true ∧ (n : Int) ≤ 524288 := by
  unfold ckSnap at h
  by_cases h0 : i = 0 ∧ t = 0 ∧ n = 0
  · obtain ⟨rfl, rfl, rfl⟩ := h0; decide
  · rw [if_neg h0] at h
    cases h1 : isIn i 1 4611686018427387904 <;> cases h2 : isIn t 1 4611686018427387904 <;> simp [h1, h2] at h
    exact ⟨(isIn_num _ _ _ (by omega) (by omega) h1).1, (isIn_num _ _ _ (by omega) (by omega) h2).1, h⟩
theorem rdSnap_tx (i t : Nat) (m : List UInt8) (hi : i ≤ 4611686018427387904) (ht : t ≤ 4611686018427387904) (hm : (m.length : Int) ≤ 524288) : rdSnap (numB i ++ numB t ++ (numB m.length ++ m)) = ((i, t, m), ((numB i ++ numB t ++ (numB m.length ++ m)).length, 0)) := by
  have e0 := rdN_mid ([]) i (numB t ++ (numB m.length ++ m)) hi
  have e1 := rdN_mid (numB i) t ((numB m.length ++ m)) ht
  have e2 := rdB_mid (numB i ++ numB t) m ([]) 524288 (by omega) hm
  simp only [List.nil_append, List.append_nil, List.append_assoc, List.length_nil] at e0 e1 e2
  unfold rdSnap
  simp only [List.append_assoc]
  rw [e0]; simp only
  rw [e1]; simp only
  rw [e2]

theorem geSnap_tx {i t : Int} {m : List UInt8} (h : ckSnap i t m.length = 0) : geSnap (txSnap i t m) = 0 ∧ goSnap (txSnap i t m) = (i.toNat, t.toNat, m) := by
  obtain ⟨ki, kt, km⟩ := ckSnap_ok h
  have ri : 0 ≤ i ∧ i ≤ 4611686018427387904 := by simpa [isNumB] using ki
  have ci : ((i.toNat : Nat) : Int) = i := by omega
  have rt : 0 ≤ t ∧ t ≤ 4611686018427387904 := by simpa [isNumB] using kt
  have ct : ((t.toNat : Nat) : Int) = t := by omega
  have hr := rdSnap_tx i.toNat t.toNat m (by omega) (by omega) km
  have hg : geSnap (txSnap i t m) = 0 := by
    unfold geSnap txSnap
    rw [hr]; simp only; rw [if_pos (doneE_end _), ci, ct, h]
  refine ⟨hg, ?_⟩
  unfold goSnap
  rw [if_pos hg]
  unfold txSnap
  rw [hr]
theorem txSnap_len (i t : Int) (m : List UInt8) : (txSnap i t m).length ≤ 30 + m.length := by
  have hbi := numB_len i.toNat
  have hbt := numB_len t.toNat
  have hbm := numB_len m.length
  simp [txSnap]; omega

def txEntry (t i k : Int) (m : List UInt8) : List UInt8 := numB t.toNat ++ numB i.toNat ++ numB k.toNat ++ (numB m.length ++ m)
def rdEntry (l : List UInt8) : (Nat × Nat × Nat × List UInt8) × (Nat × Nat) := (((rdN l (0, 0)).1, (rdN l (rdN l (0, 0)).2).1, (rdN l (rdN l (rdN l (0, 0)).2).2).1, (rdB l 4096 (rdN l (rdN l (rdN l (0, 0)).2).2).2).1), (rdB l 4096 (rdN l (rdN l (rdN l (0, 0)).2).2).2).2)
def geEntry (l : List UInt8) : Nat := if doneE l (rdEntry l).2.1 (rdEntry l).2.2 = 0 then ckEntry ((rdEntry l).1.1 : Int) ((rdEntry l).1.2.1 : Int) ((rdEntry l).1.2.2.1 : Int) ((rdEntry l).1.2.2.2).length else doneE l (rdEntry l).2.1 (rdEntry l).2.2
def goEntry (l : List UInt8) : Nat × Nat × Nat × List UInt8 := if geEntry l = 0 then (rdEntry l).1 else (0, 0, 0, [])
theorem ckEntry_ok {t i k : Int} {n : Nat} (h : ckEntry t i k n = 0) : isNumB t = true ∧ isNumB i = true ∧ isNumB k = true ∧ (n : Int) ≤ 4096 := by
  unfold ckEntry at h
  cases h1 : isIn t 1 4611686018427387904 <;> cases h2 : isIn i 1 4611686018427387904 <;> simp only [h1, h2, if_true, if_false, Bool.true_eq_false] at h <;> try (simp at h; done)
  refine ⟨(isIn_num _ _ _ (by omega) (by omega) h1).1, (isIn_num _ _ _ (by omega) (by omega) h2).1, ?_⟩
  by_cases hk : k ≠ 0 ∧ k ≠ 1
  · rw [if_pos hk] at h; simp at h
  · rw [if_neg hk] at h
    by_cases hn : (4096 : Int) < (n : Int)
    · rw [if_pos hn] at h; simp at h
    · exact ⟨by simp [isNumB]; omega, by omega⟩
theorem rdEntry_tx (t i k : Nat) (m : List UInt8) (ht : t ≤ 4611686018427387904) (hi : i ≤ 4611686018427387904) (hk : k ≤ 4611686018427387904) (hm : (m.length : Int) ≤ 4096) : rdEntry (numB t ++ numB i ++ numB k ++ (numB m.length ++ m)) = ((t, i, k, m), ((numB t ++ numB i ++ numB k ++ (numB m.length ++ m)).length, 0)) := by
  have e0 := rdN_mid ([]) t (numB i ++ numB k ++ (numB m.length ++ m)) ht
  have e1 := rdN_mid (numB t) i (numB k ++ (numB m.length ++ m)) hi
  have e2 := rdN_mid (numB t ++ numB i) k ((numB m.length ++ m)) hk
  have e3 := rdB_mid (numB t ++ numB i ++ numB k) m ([]) 4096 (by omega) hm
  simp only [List.nil_append, List.append_nil, List.append_assoc, List.length_nil] at e0 e1 e2 e3
  unfold rdEntry
  simp only [List.append_assoc]
  rw [e0]; simp only
  rw [e1]; simp only
  rw [e2]; simp only
  rw [e3]

theorem geEntry_tx {t i k : Int} {m : List UInt8} (h : ckEntry t i k m.length = 0) : geEntry (txEntry t i k m) = 0 ∧ goEntry (txEntry t i k m) = (t.toNat, i.toNat, k.toNat, m) := by
  obtain ⟨kt, ki, kk, km⟩ := ckEntry_ok h
  have rt : 0 ≤ t ∧ t ≤ 4611686018427387904 := by simpa [isNumB] using kt
  have ct : ((t.toNat : Nat) : Int) = t := by omega
  have ri : 0 ≤ i ∧ i ≤ 4611686018427387904 := by simpa [isNumB] using ki
  have ci : ((i.toNat : Nat) : Int) = i := by omega
  have rk : 0 ≤ k ∧ k ≤ 4611686018427387904 := by simpa [isNumB] using kk
  have ck : ((k.toNat : Nat) : Int) = k := by omega
  have hr := rdEntry_tx t.toNat i.toNat k.toNat m (by omega) (by omega) (by omega) km
  have hg : geEntry (txEntry t i k m) = 0 := by
    unfold geEntry txEntry
    rw [hr]; simp only; rw [if_pos (doneE_end _), ct, ci, ck, h]
  refine ⟨hg, ?_⟩
  unfold goEntry
  rw [if_pos hg]
  unfold txEntry
  rw [hr]
theorem txEntry_len (t i k : Int) (m : List UInt8) : (txEntry t i k m).length ≤ 40 + m.length := by
  have hbt := numB_len t.toNat
  have hbi := numB_len i.toNat
  have hbk := numB_len k.toNat
  have hbm := numB_len m.length
  simp [txEntry]; omega

def txCommand (o c s : Int) (k v d : List UInt8) : List UInt8 := numB o.toNat ++ numB c.toNat ++ numB s.toNat ++ (numB k.length ++ k) ++ (numB v.length ++ v) ++ (numB d.length ++ d)
def rdCommand (l : List UInt8) : (Nat × Nat × Nat × List UInt8 × List UInt8 × List UInt8) × (Nat × Nat) := (((rdN l (0, 0)).1, (rdN l (rdN l (0, 0)).2).1, (rdN l (rdN l (rdN l (0, 0)).2).2).1, (rdB l 64 (rdN l (rdN l (rdN l (0, 0)).2).2).2).1, (rdB l 1024 (rdB l 64 (rdN l (rdN l (rdN l (0, 0)).2).2).2).2).1, (rdB l 1024 (rdB l 1024 (rdB l 64 (rdN l (rdN l (rdN l (0, 0)).2).2).2).2).2).1), (rdB l 1024 (rdB l 1024 (rdB l 64 (rdN l (rdN l (rdN l (0, 0)).2).2).2).2).2).2)
def geCommand (l : List UInt8) : Nat := if doneE l (rdCommand l).2.1 (rdCommand l).2.2 = 0 then ckCommand ((rdCommand l).1.1 : Int) ((rdCommand l).1.2.1 : Int) ((rdCommand l).1.2.2.1 : Int) (rdCommand l).1.2.2.2.1 (rdCommand l).1.2.2.2.2.1 (rdCommand l).1.2.2.2.2.2 else doneE l (rdCommand l).2.1 (rdCommand l).2.2
def goCommand (l : List UInt8) : Nat × Nat × Nat × List UInt8 × List UInt8 × List UInt8 := if geCommand l = 0 then (rdCommand l).1 else (0, 0, 0, [], [], [])
theorem ckCommand_ok {o c s : Int} {k v d : List UInt8} (h : ckCommand o c s k v d = 0) : isNumB o = true ∧ isNumB c = true ∧ isNumB s = true ∧ (k.length : Int) ≤ 64 ∧ (v.length : Int) ≤ 1024 ∧ (d.length : Int) ≤ 1024 := by
  unfold ckCommand at h
  cases h1 : isIn o 2 4 <;> cases h2 : isIn c 1 4611686018427387904 <;> cases h3 : isIn s 1 4611686018427387904 <;> simp only [h1, h2, h3, if_true, if_false, Bool.true_eq_false] at h <;> try (simp at h; done)
  refine ⟨(isIn_num _ _ _ (by omega) (by omega) h1).1, (isIn_num _ _ _ (by omega) (by omega) h2).1, (isIn_num _ _ _ (by omega) (by omega) h3).1, ?_⟩
  by_cases e1 : (64 : Int) < (k.length : Int)
  · rw [if_pos e1] at h; simp at h
  · rw [if_neg e1] at h
    by_cases e2 : (1024 : Int) < (v.length : Int)
    · rw [if_pos e2] at h; simp at h
    · rw [if_neg e2] at h
      by_cases e3 : (1024 : Int) < (d.length : Int)
      · rw [if_pos e3] at h; simp at h
      · exact ⟨by omega, by omega, by omega⟩
theorem rdCommand_tx (o c s : Nat) (k v d : List UInt8) (ho : o ≤ 4611686018427387904) (hc : c ≤ 4611686018427387904) (hs : s ≤ 4611686018427387904) (hk : (k.length : Int) ≤ 64) (hv : (v.length : Int) ≤ 1024) (hd : (d.length : Int) ≤ 1024) : rdCommand (numB o ++ numB c ++ numB s ++ (numB k.length ++ k) ++ (numB v.length ++ v) ++ (numB d.length ++ d)) = ((o, c, s, k, v, d), ((numB o ++ numB c ++ numB s ++ (numB k.length ++ k) ++ (numB v.length ++ v) ++ (numB d.length ++ d)).length, 0)) := by
  have e0 := rdN_mid ([]) o (numB c ++ numB s ++ (numB k.length ++ k) ++ (numB v.length ++ v) ++ (numB d.length ++ d)) ho
  have e1 := rdN_mid (numB o) c (numB s ++ (numB k.length ++ k) ++ (numB v.length ++ v) ++ (numB d.length ++ d)) hc
  have e2 := rdN_mid (numB o ++ numB c) s ((numB k.length ++ k) ++ (numB v.length ++ v) ++ (numB d.length ++ d)) hs
  have e3 := rdB_mid (numB o ++ numB c ++ numB s) k ((numB v.length ++ v) ++ (numB d.length ++ d)) 64 (by omega) hk
  have e4 := rdB_mid (numB o ++ numB c ++ numB s ++ (numB k.length ++ k)) v ((numB d.length ++ d)) 1024 (by omega) hv
  have e5 := rdB_mid (numB o ++ numB c ++ numB s ++ (numB k.length ++ k) ++ (numB v.length ++ v)) d ([]) 1024 (by omega) hd
  simp only [List.nil_append, List.append_nil, List.append_assoc, List.length_nil] at e0 e1 e2 e3 e4 e5
  unfold rdCommand
  simp only [List.append_assoc]
  rw [e0]; simp only
  rw [e1]; simp only
  rw [e2]; simp only
  rw [e3]; simp only
  rw [e4]; simp only
  rw [e5]

theorem geCommand_tx {o c s : Int} {k v d : List UInt8} (h : ckCommand o c s k v d = 0) : geCommand (txCommand o c s k v d) = 0 ∧ goCommand (txCommand o c s k v d) = (o.toNat, c.toNat, s.toNat, k, v, d) := by
  obtain ⟨ko, kc, ks, kk, kv, kd⟩ := ckCommand_ok h
  have ro : 0 ≤ o ∧ o ≤ 4611686018427387904 := by simpa [isNumB] using ko
  have co : ((o.toNat : Nat) : Int) = o := by omega
  have rc : 0 ≤ c ∧ c ≤ 4611686018427387904 := by simpa [isNumB] using kc
  have cc : ((c.toNat : Nat) : Int) = c := by omega
  have rs : 0 ≤ s ∧ s ≤ 4611686018427387904 := by simpa [isNumB] using ks
  have cs : ((s.toNat : Nat) : Int) = s := by omega
  have hr := rdCommand_tx o.toNat c.toNat s.toNat k v d (by omega) (by omega) (by omega) kk kv kd
  have hg : geCommand (txCommand o c s k v d) = 0 := by
    unfold geCommand txCommand
    rw [hr]; simp only; rw [if_pos (doneE_end _), co, cc, cs, h]
  refine ⟨hg, ?_⟩
  unfold goCommand
  rw [if_pos hg]
  unfold txCommand
  rw [hr]
theorem txCommand_len (o c s : Int) (k v d : List UInt8) : (txCommand o c s k v d).length ≤ 60 + k.length + v.length + d.length := by
  have hbo := numB_len o.toNat
  have hbc := numB_len c.toNat
  have hbs := numB_len s.toNat
  have hbk := numB_len k.length
  have hbv := numB_len v.length
  have hbd := numB_len d.length
  simp [txCommand]; omega
end Go.Proofs.YtnahghldlkjleaaGreatDoor.Cd
namespace Go.Proofs.YtnahghldlkjleaaGreatDoor.Cd
open Go.RowKit Go.Shelf

set_option maxRecDepth 100000 in
set_option maxHeartbeats 400000 in
theorem within_any (n a b : Int) (w : World) : Calls Tryz.prog 168 #[.int .i64 n, .int .i64 a, .int .i64 b] w fun e w' => e = .returned (.bool (isIn n a b)) ∧ w' = w := by
  unfold isIn
  by_cases h : a ≤ n
  · have h' : decide (a ≤ n) = true := by simpa using h
    go_enter Tryz.func168, Tryz.ntmps168
    go_wp2
    go_ret
    exact ⟨by simp [h], rfl⟩
  · have h' : decide (a ≤ n) = false := by simpa using h
    go_enter Tryz.func168, Tryz.ntmps168
    go_wp2
    go_ret
    exact ⟨by simp, rfl⟩

set_option maxRecDepth 100000 in
set_option maxHeartbeats 400000 in
theorem refWithin_any (n a b : Int) (w : World) : Calls Tryz.prog 181 #[.int .i64 n, .int .i64 a, .int .i64 b] w fun e w' => e = .returned (.bool (isIn n a b)) ∧ w' = w := by
  unfold isIn
  by_cases h : a ≤ n
  · have h' : decide (a ≤ n) = true := by simpa using h
    go_enter Tryz.func181, Tryz.ntmps181
    go_wp2
    go_ret
    exact ⟨by simp [h], rfl⟩
  · have h' : decide (a ≤ n) = false := by simpa using h
    go_enter Tryz.func181, Tryz.ntmps181
    go_wp2
    go_ret
    exact ⟨by simp, rfl⟩

end Go.Proofs.YtnahghldlkjleaaGreatDoor.Cd
namespace Go.Proofs.YtnahghldlkjleaaGreatDoor.Cd
open Go.RowKit Go.Shelf

/-- What a writer turns lies at its own block or behind. -/
theorem Tn.bel {t : TypeId} {w0 w w' : World} {v : Value} {l : List UInt8} {e : Nat} (h : Wtr t w0.heap.size w w0.heap.size v l e) (hB : Below w0.heap.size w0 w) (hT : Tn w w' w0.heap.size v) : Below w0.heap.size w0 w' := by
  have hz := hB.size
  refine hB.trans ⟨hT.os, hT.tape, hT.output, hT.size, fun k hk => hT.block k (by omega) (by omega) (fun e => ?_)⟩
  have := (World.ownsRow.lt h.ow k e).1
  omega

/-- The code's writer, made at w0's end: it has put l. -/
structure Wr (w0 w : World) (l : List UInt8) : Prop where
  ex : ∃ v, Wtr 314 w0.heap.size w w0.heap.size v l 0
  bel : Below w0.heap.size w0 w
/-- The document's writer. -/
structure Wv (w0 w : World) (l : List UInt8) : Prop where
  ex : ∃ v, Wtr 242 w0.heap.size w w0.heap.size v l 0
  bel : Below w0.heap.size w0 w

theorem newW_any (w : World) : Calls Tryz.prog 215 #[] w fun r w' => r = .returned (.pointer (some ⟨w.heap.size, 0, none⟩)) ∧ Wr w w' [] := by
  refine (newWriter_any w).mono ?_
  rintro r w' ⟨rfl, h, hB⟩
  exact ⟨rfl, ⟨_, h⟩, hB⟩

theorem newV {w : World} : Wv w (w.alloc (.cells #[.slice none 0 0, .int .i64 0] 242)) [] :=
  ⟨⟨_, Nat.le_refl _, World.alloc_heap_new w _, Ow.nil _ _⟩, (Below.refl _ w).alloc (Nat.le_refl _) _⟩

theorem wrInt_any (n : Int) {w0 w : World} {l : List UInt8} (h : Wr w0 w l) (hl : l.length ≤ 1073741824) (hn : isNumB n = true) :
    Calls Tryz.prog 216 #[.pointer (some ⟨w0.heap.size, 0, none⟩), .int .i64 n] w fun r w' => r = .returned (.tuple #[]) ∧ Wr w0 w' (l ++ numB n.toNat) := by
  obtain ⟨⟨v, hW⟩, hB⟩ := h
  refine (wwInt_any _ _ v l 0 n w hW hl).mono ?_
  rintro r w' ⟨rfl, v', hW', hT, -⟩
  rw [wInt_ok l n hn] at hW'
  exact ⟨rfl, ⟨v', hW'⟩, Tn.bel hW hB hT⟩

theorem wvInt_any (n : Int) {w0 w : World} {l : List UInt8} (h : Wv w0 w l) (hl : l.length ≤ 1073741824) (hn : isNumB n = true) :
    Calls Tryz.prog 184 #[.pointer (some ⟨w0.heap.size, 0, none⟩), .int .i64 n] w fun r w' => r = .returned (.tuple #[]) ∧ Wv w0 w' (l ++ numB n.toNat) := by
  obtain ⟨⟨v, hW⟩, hB⟩ := h
  refine (vvInt_any _ _ v l 0 n w hW hl).mono ?_
  rintro r w' ⟨rfl, v', hW', hT, -⟩
  rw [vInt_ok l n hn] at hW'
  exact ⟨rfl, ⟨v', hW'⟩, Tn.bel hW hB hT⟩

theorem bool_num (t : Bool) : isNumB (if t then 1 else 0) = true := by cases t <;> decide
theorem bool_nat (t : Bool) : ((if t then 1 else 0 : Int)).toNat = if t then 1 else 0 := by cases t <;> rfl

theorem wBytes_ok (l m : List UInt8) (most : Int) (h : (m.length : Int) ≤ most) : wBytes l 0 m most = (l ++ (numB m.length ++ m), 0) := by
  unfold wBytes; rw [if_neg (by simp), if_neg (by omega)]; simp
theorem vBytes_ok (l m : List UInt8) (most : Int) (h : (m.length : Int) ≤ most) : vBytes l 0 m most = (l ++ (numB m.length ++ m), 0) := by
  unfold vBytes; rw [if_neg (by simp), if_neg (by omega)]; simp

theorem wrBytes_any (most : Int) {w0 w : World} {l m : List UInt8} {x : Value} {M : Nat} (h : Wr w0 w l) (hl : l.length ≤ 1073741824) (hm : m.length ≤ 1073741824) (hx : Sl M w0 x m) (hM : M ≤ w0.heap.size) (hmost : (m.length : Int) ≤ most) :
    Calls Tryz.prog 219 #[.pointer (some ⟨w0.heap.size, 0, none⟩), x, .int .i64 most] w fun r w' => r = .returned (.tuple #[]) ∧ Wr w0 w' (l ++ (numB m.length ++ m)) := by
  obtain ⟨⟨v, hW⟩, hB⟩ := h
  have hz := hB.size
  have hx' := hx.below (hB.mono hM)
  refine (wwBytes_any _ _ M v x l m 0 most w hW hl hm hx' (by omega) (apart_out hW hx' hM)).mono ?_
  rintro r w' ⟨rfl, v', hW', hT, -⟩
  rw [wBytes_ok l m most hmost] at hW'
  exact ⟨rfl, ⟨v', hW'⟩, Tn.bel hW hB hT⟩

theorem wvBytes_any (most : Int) {w0 w : World} {l m : List UInt8} {x : Value} {M : Nat} (h : Wv w0 w l) (hl : l.length ≤ 1073740824) (hm : m.length ≤ 1073741824) (hx : Sl M w0 x m) (hM : M ≤ w0.heap.size) (hmost : (m.length : Int) ≤ most) :
    Calls Tryz.prog 186 #[.pointer (some ⟨w0.heap.size, 0, none⟩), x, .int .i64 most] w fun r w' => r = .returned (.tuple #[]) ∧ Wv w0 w' (l ++ (numB m.length ++ m)) := by
  obtain ⟨⟨v, hW⟩, hB⟩ := h
  have hz := hB.size
  have hx' := hx.below (hB.mono hM)
  refine (vvBytes_any _ _ M v x l m 0 most w hW hl hm hx' (by omega) (apart_out hW hx' hM)).mono ?_
  rintro r w' ⟨rfl, v', hW', hT, -⟩
  rw [vBytes_ok l m most hmost] at hW'
  exact ⟨rfl, ⟨v', hW'⟩, Tn.bel hW hB hT⟩

theorem wrDone_any {w0 w : World} {l : List UInt8} (h : Wr w0 w l) (hl : l.length ≤ 1073741824) :
    Calls Tryz.prog 220 #[.pointer (some ⟨w0.heap.size, 0, none⟩)] w fun r w' => ∃ u, r = .returned (.tuple #[u, .int .i64 0]) ∧ Ow w0.heap.size w' u l ∧ Below w0.heap.size w0 w' := by
  obtain ⟨⟨v, hW⟩, hB⟩ := h
  have hz := hB.size
  refine (wwDone_any _ _ v l 0 w hW hl).mono ?_
  rintro r w' ⟨u, rfl, hO, hB'⟩
  exact ⟨u, rfl, hO.base hz, hB.trans (hB'.mono hz)⟩

theorem wvDone_any {w0 w : World} {l : List UInt8} (h : Wv w0 w l) :
    Calls Tryz.prog 182 #[.pointer (some ⟨w0.heap.size, 0, none⟩)] w fun r w' => ∃ u, r = .returned (.tuple #[u, .int .i64 0]) ∧ Sl w'.heap.size w' u l ∧ Below w0.heap.size w0 w' := by
  obtain ⟨⟨v, hW⟩, hB⟩ := h
  refine (vvDone_any _ _ v l 0 w hW).mono ?_
  rintro r w' ⟨u, rfl, hS, n, rfl⟩
  rw [if_pos rfl] at hS
  exact ⟨u, rfl, hS, hB.trans ⟨rfl, rfl, rfl, Nat.le_refl _, fun _ _ => rfl⟩⟩

/-- The code's reader of l, made behind w0. -/
structure Rr (w0 w : World) (R : Nat) (l : List UInt8) (p e : Nat) : Prop where
  rdr : Rdr w0.heap.size w R l p e
  bel : Below w0.heap.size w0 w
  len : l.length ≤ 1099511627776
  le : p ≤ l.length
/-- The document's reader. -/
structure Rq (w0 w : World) (Q : Nat) (v : Value) (l : List UInt8) (p e : Nat) : Prop where
  rrd : Rrd w0.heap.size w Q v l p e
  bel : Below w0.heap.size w0 w
  len : l.length ≤ 20000
  le : p ≤ l.length

theorem Rr.mono {w0 w w' : World} {R : Nat} {l : List UInt8} {p e : Nat} (h : Rr w0 w R l p e) (hB : Below w.heap.size w w') : Rr w0 w' R l p e :=
  ⟨h.rdr.below hB (Nat.le_refl _), h.bel.trans (hB.mono h.bel.size), h.len, h.le⟩
theorem Rq.mono {w0 w w' : World} {Q : Nat} {v : Value} {l : List UInt8} {p e : Nat} (h : Rq w0 w Q v l p e) (hB : Below w.heap.size w w') : Rq w0 w' Q v l p e :=
  ⟨h.rrd.below hB (Nat.le_refl _), h.bel.trans (hB.mono h.bel.size), h.len, h.le⟩

theorem Rr.turn {w0 w w' : World} {R : Nat} {l : List UInt8} {p e p' e' : Nat} (h : Rr w0 w R l p e) (h' : Rdr w0.heap.size w' R l p' e') (hg : w.grownBy w' (some R)) (hp : p' ≤ l.length) : Rr w0 w' R l p' e' :=
  ⟨h', h.bel.grown hg h.bel.size (fun k e => by cases e; exact h.rdr.le), h.len, hp⟩
theorem Rq.turn {w0 w w' : World} {Q : Nat} {v : Value} {l : List UInt8} {p e p' e' : Nat} (h : Rq w0 w Q v l p e) (h' : Rrd w0.heap.size w' Q v l p' e') (hg : w.grownBy w' (some Q)) (hp : p' ≤ l.length) : Rq w0 w' Q v l p' e' :=
  ⟨h', h.bel.grown hg h.bel.size (fun k e => by cases e; exact h.rrd.le), h.len, hp⟩

theorem newR_any (w : World) {M : Nat} {v : Value} {l : List UInt8} (hv : Sl M w v l) (hl : l.length ≤ 1099511627776) :
    Calls Tryz.prog 210 #[v] w fun r w' => ∃ R, r = .returned (.pointer (some ⟨R, 0, none⟩)) ∧ Rr w w' R l 0 0 := by
  refine (newReader_any M v l w hv hl).mono ?_
  rintro r w' ⟨R, rfl, h, hB⟩
  exact ⟨R, rfl, h, hB, hl, Nat.zero_le _⟩

theorem newQ {M : Nat} {w : World} {v : Value} {l : List UInt8} (hv : Sl M w v l) (hM : M ≤ w.heap.size) (hl : l.length ≤ 20000) : Rq w (w.alloc (.cells #[v, .int .i64 0, .int .i64 0] 235)) w.heap.size v l 0 0 := by
  have hB : Below w.heap.size w (w.alloc (.cells #[v, .int .i64 0, .int .i64 0] 235)) := (Below.refl _ w).alloc (Nat.le_refl _) _
  exact ⟨⟨Nat.le_refl _, World.alloc_heap_new w _, (hv.below (hB.mono hM)).mono hM⟩, hB, hl, Nat.zero_le _⟩

theorem rrInt_any {w0 w : World} {R : Nat} {l : List UInt8} {a e n a' e' : Nat} (h : Rr w0 w R l a e) (hr : rdN l (a, e) = (n, (a', e'))) :
    Calls Tryz.prog 211 #[.pointer (some ⟨R, 0, none⟩)] w fun r w' => r = .returned (.int .i64 (n : Int)) ∧ Rr w0 w' R l a' e' := by
  have hle := rdN_le l (a, e) h.le
  refine (rInt_any _ R l a e w h.rdr h.len h.le).mono ?_
  rintro r w' ⟨rfl, h', hg⟩
  rw [hr] at hle
  simp only [rdN, Prod.mk.injEq] at hr
  obtain ⟨rfl, rfl, rfl⟩ := hr
  exact ⟨rfl, h.turn h' hg hle⟩

theorem rqInt_any {w0 w : World} {Q : Nat} {v : Value} {l : List UInt8} {a e n a' e' : Nat} (h : Rq w0 w Q v l a e) (hr : rdN l (a, e) = (n, (a', e'))) :
    Calls Tryz.prog 177 #[.pointer (some ⟨Q, 0, none⟩)] w fun r w' => r = .returned (.int .i64 (n : Int)) ∧ Rq w0 w' Q v l a' e' := by
  have hle := rdN_le l (a, e) h.le
  refine (qInt_any _ Q v l a e w h.rrd h.len h.le).mono ?_
  rintro r w' ⟨rfl, h', hg⟩
  rw [hr] at hle
  simp only [rdN, Prod.mk.injEq] at hr
  obtain ⟨rfl, rfl, rfl⟩ := hr
  exact ⟨rfl, h.turn h' hg hle⟩

theorem rrBytes_any {w0 w : World} {R : Nat} {l t : List UInt8} {a e a' e' : Nat} (most : Int) (h : Rr w0 w R l a e) (hr : rdB l most (a, e) = (t, (a', e'))) :
    Calls Tryz.prog 259 #[.pointer (some ⟨R, 0, none⟩), .int .i64 most] w fun r w' => ∃ v, r = .returned v ∧ Ow w.heap.size w' v t ∧ Rr w0 w' R l a' e' ∧ w.heap.size ≤ w'.heap.size := by
  have hle := rdB_le l most (a, e) h.le
  refine (rBytes_any _ R l a e most w h.rdr h.len h.le).mono ?_
  rintro r w' ⟨v, rfl, hO, h', hg⟩
  rw [hr] at hle
  simp only [rdB, Prod.mk.injEq] at hr
  obtain ⟨rfl, rfl, rfl⟩ := hr
  exact ⟨v, rfl, hO, h.turn h' hg hle, hg.size⟩

theorem rqBytes_any {w0 w : World} {Q : Nat} {v : Value} {l t : List UInt8} {a e a' e' : Nat} (most : Int) (h : Rq w0 w Q v l a e) (hr : rdB l most (a, e) = (t, (a', e'))) :
    Calls Tryz.prog 179 #[.pointer (some ⟨Q, 0, none⟩), .int .i64 most] w fun r w' => ∃ u, r = .returned u ∧ Sl w'.heap.size w' u t ∧ Rq w0 w' Q v l a' e' := by
  have hle := rdB_le l most (a, e) h.le
  refine (qBytes_any _ Q v l a e most w h.rrd h.len h.le).mono ?_
  rintro r w' ⟨u, rfl, hS, h', hg⟩
  rw [hr] at hle
  simp only [rdB, Prod.mk.injEq] at hr
  obtain ⟨rfl, rfl, rfl⟩ := hr
  exact ⟨u, rfl, hS, h.turn h' hg hle⟩

theorem rrDone_any {w0 w : World} {R : Nat} {l : List UInt8} {a e : Nat} (h : Rr w0 w R l a e) :
    Calls Tryz.prog 214 #[.pointer (some ⟨R, 0, none⟩)] w fun r w' => r = .returned (.int .i64 (doneE l a e : Int)) ∧ Below w.heap.size w w' := by
  refine (rDone_any _ R l a e w h.rdr h.len h.le).mono ?_
  rintro r w' ⟨rfl, n, rfl⟩
  exact ⟨rfl, rfl, rfl, rfl, Nat.le_refl _, fun _ _ => rfl⟩

theorem rqDone_any {w0 w : World} {Q : Nat} {v : Value} {l : List UInt8} {a e : Nat} (h : Rq w0 w Q v l a e) :
    Calls Tryz.prog 178 #[.pointer (some ⟨Q, 0, none⟩)] w fun r w' => r = .returned (.int .i64 (doneE l a e : Int)) ∧ Below w.heap.size w w' := by
  refine (qDone_any _ Q v l a e w h.rrd h.len h.le).mono ?_
  rintro r w' ⟨rfl, n, rfl⟩
  exact ⟨rfl, rfl, rfl, rfl, Nat.le_refl _, fun _ _ => rfl⟩
end Go.Proofs.YtnahghldlkjleaaGreatDoor.Cd
namespace Go.Proofs.YtnahghldlkjleaaGreatDoor.Cd
open Go.RowKit Go.Shelf

end Go.Proofs.YtnahghldlkjleaaGreatDoor.Cd
namespace Go.Proofs.YtnahghldlkjleaaGreatDoor.Cd
open Go.RowKit Go.Shelf

end Go.Proofs.YtnahghldlkjleaaGreatDoor.Cd
namespace Go.Proofs.YtnahghldlkjleaaGreatDoor.Cd
open Go.RowKit Go.Shelf

theorem bel_set {N : Nat} {w w' : World} {B o : Nat} (h : Below N w w') (hB : N ≤ B) (v : Value) : Below N w (w'.setCell ⟨B, o, none⟩ v) := h.setCell (p := ⟨B, o, none⟩) hB v

theorem Sl.grow {M B : Nat} {w w' : World} {v : Value} {l : List UInt8} (h : Sl M w v l) (hM : M ≤ w.heap.size) (hg : w.grownBy w' (some B)) (hne : l ≠ [] → v.ownBlock ≠ some B) : Sl w'.heap.size w' v l := by
  obtain ⟨a, cap, rfl, h1, h2, h3⟩ := h
  refine ⟨a, cap, rfl, h1, h2, ?_⟩
  by_cases hl : l = []
  · exact .inl hl
  · obtain ⟨b, off, rfl, hb, hc⟩ := h3.resolve_left hl
    have hz := hg.size
    refine .inr ⟨b, off, rfl, by omega, fun i hi => ?_⟩
    exact (World.cell?_of_block (hg.block b (by omega) (fun e => hne hl (by simp [Value.ownBlock, e]))) ).trans (hc i hi)
theorem Sl.not_at {M : Nat} {w : World} {v : Value} {l : List UInt8} (h : Sl M w v l) {R : Nat} {cs : Array Value} {t : TypeId} {z : Nat × Nat} (hR : w.heap[R]? = some (.cells cs t z)) (hcs : ∀ (i : Nat) (b : UInt8), cs[i]? ≠ some (encB b)) : l ≠ [] → v.ownBlock ≠ some R := by
  intro hl e
  obtain ⟨a, cap, rfl, h1, h2, h3⟩ := h
  obtain ⟨b, off, rfl, hb, hc⟩ := h3.resolve_left hl
  have hbR : b = R := by simpa [Value.ownBlock] using e
  subst hbR
  have h0 := hc 0 (List.length_pos_iff.2 hl)
  simp only [World.cell?, hR] at h0
  exact hcs _ _ h0

theorem cells2 {w : World} {B : Nat} {x0 x1 : Value} {t : TypeId} (h : w.heap[B]? = some (.cells #[x0, x1] t (0, 0))) :
    (w.cell? ⟨B, 0, none⟩ = some x0 ∧ w.cell? ⟨B, 1, none⟩ = some x1) ∧ (w.frozen? ⟨B, 0, none⟩ = false ∧ w.frozen? ⟨B, 1, none⟩ = false) := by
  refine ⟨⟨?_, ?_⟩, ⟨?_, ?_⟩⟩ <;> simp [World.cell?, World.frozen?, h]
theorem set2 {w : World} {B : Nat} {x0 x1 : Value} {t : TypeId} (h : w.heap[B]? = some (.cells #[x0, x1] t (0, 0))) (y0 y1 : Value) :
    ((w.setCell ⟨B, 0, none⟩ y0).setCell ⟨B, 1, none⟩ y1).heap[B]? = some (.cells #[y0, y1] t (0, 0)) := by
  rw [heap_set (heap_set h 0 y0) 1 y1]; rfl
theorem belset2 {N : Nat} {w0 w : World} {B : Nat} (h : Below N w0 w) (hB : N ≤ B) (y0 y1 : Value) : Below N w0 ((w.setCell ⟨B, 0, none⟩ y0).setCell ⟨B, 1, none⟩ y1) :=
  bel_set (bel_set h hB _) hB _
theorem grownset2 (w : World) (B : Nat) (y0 y1 : Value) : w.grownBy ((w.setCell ⟨B, 0, none⟩ y0).setCell ⟨B, 1, none⟩ y1) (some B) :=
  grown_trans (grown_set _ _ _ _) (grown_set _ _ _ _) (fun _ e => .inl e)
theorem cells3 {w : World} {B : Nat} {x0 x1 x2 : Value} {t : TypeId} (h : w.heap[B]? = some (.cells #[x0, x1, x2] t (0, 0))) :
    (w.cell? ⟨B, 0, none⟩ = some x0 ∧ w.cell? ⟨B, 1, none⟩ = some x1 ∧ w.cell? ⟨B, 2, none⟩ = some x2) ∧ (w.frozen? ⟨B, 0, none⟩ = false ∧ w.frozen? ⟨B, 1, none⟩ = false ∧ w.frozen? ⟨B, 2, none⟩ = false) := by
  refine ⟨⟨?_, ?_, ?_⟩, ⟨?_, ?_, ?_⟩⟩ <;> simp [World.cell?, World.frozen?, h]
theorem set3 {w : World} {B : Nat} {x0 x1 x2 : Value} {t : TypeId} (h : w.heap[B]? = some (.cells #[x0, x1, x2] t (0, 0))) (y0 y1 y2 : Value) :
    (((w.setCell ⟨B, 0, none⟩ y0).setCell ⟨B, 1, none⟩ y1).setCell ⟨B, 2, none⟩ y2).heap[B]? = some (.cells #[y0, y1, y2] t (0, 0)) := by
  rw [heap_set (heap_set (heap_set h 0 y0) 1 y1) 2 y2]; rfl
theorem belset3 {N : Nat} {w0 w : World} {B : Nat} (h : Below N w0 w) (hB : N ≤ B) (y0 y1 y2 : Value) : Below N w0 (((w.setCell ⟨B, 0, none⟩ y0).setCell ⟨B, 1, none⟩ y1).setCell ⟨B, 2, none⟩ y2) :=
  bel_set (bel_set (bel_set h hB _) hB _) hB _
theorem grownset3 (w : World) (B : Nat) (y0 y1 y2 : Value) : w.grownBy (((w.setCell ⟨B, 0, none⟩ y0).setCell ⟨B, 1, none⟩ y1).setCell ⟨B, 2, none⟩ y2) (some B) :=
  grown_trans (grown_trans (grown_set _ _ _ _) (grown_set _ _ _ _) (fun _ e => .inl e)) (grown_set _ _ _ _) (fun _ e => .inl e)
theorem cells4 {w : World} {B : Nat} {x0 x1 x2 x3 : Value} {t : TypeId} (h : w.heap[B]? = some (.cells #[x0, x1, x2, x3] t (0, 0))) :
    (w.cell? ⟨B, 0, none⟩ = some x0 ∧ w.cell? ⟨B, 1, none⟩ = some x1 ∧ w.cell? ⟨B, 2, none⟩ = some x2 ∧ w.cell? ⟨B, 3, none⟩ = some x3) ∧ (w.frozen? ⟨B, 0, none⟩ = false ∧ w.frozen? ⟨B, 1, none⟩ = false ∧ w.frozen? ⟨B, 2, none⟩ = false ∧ w.frozen? ⟨B, 3, none⟩ = false) := by
  refine ⟨⟨?_, ?_, ?_, ?_⟩, ⟨?_, ?_, ?_, ?_⟩⟩ <;> simp [World.cell?, World.frozen?, h]
theorem set4 {w : World} {B : Nat} {x0 x1 x2 x3 : Value} {t : TypeId} (h : w.heap[B]? = some (.cells #[x0, x1, x2, x3] t (0, 0))) (y0 y1 y2 y3 : Value) :
    ((((w.setCell ⟨B, 0, none⟩ y0).setCell ⟨B, 1, none⟩ y1).setCell ⟨B, 2, none⟩ y2).setCell ⟨B, 3, none⟩ y3).heap[B]? = some (.cells #[y0, y1, y2, y3] t (0, 0)) := by
  rw [heap_set (heap_set (heap_set (heap_set h 0 y0) 1 y1) 2 y2) 3 y3]; rfl
theorem belset4 {N : Nat} {w0 w : World} {B : Nat} (h : Below N w0 w) (hB : N ≤ B) (y0 y1 y2 y3 : Value) : Below N w0 ((((w.setCell ⟨B, 0, none⟩ y0).setCell ⟨B, 1, none⟩ y1).setCell ⟨B, 2, none⟩ y2).setCell ⟨B, 3, none⟩ y3) :=
  bel_set (bel_set (bel_set (bel_set h hB _) hB _) hB _) hB _
theorem grownset4 (w : World) (B : Nat) (y0 y1 y2 y3 : Value) : w.grownBy ((((w.setCell ⟨B, 0, none⟩ y0).setCell ⟨B, 1, none⟩ y1).setCell ⟨B, 2, none⟩ y2).setCell ⟨B, 3, none⟩ y3) (some B) :=
  grown_trans (grown_trans (grown_trans (grown_set _ _ _ _) (grown_set _ _ _ _) (fun _ e => .inl e)) (grown_set _ _ _ _) (fun _ e => .inl e)) (grown_set _ _ _ _) (fun _ e => .inl e)
theorem cells6 {w : World} {B : Nat} {x0 x1 x2 x3 x4 x5 : Value} {t : TypeId} (h : w.heap[B]? = some (.cells #[x0, x1, x2, x3, x4, x5] t (0, 0))) :
    (w.cell? ⟨B, 0, none⟩ = some x0 ∧ w.cell? ⟨B, 1, none⟩ = some x1 ∧ w.cell? ⟨B, 2, none⟩ = some x2 ∧ w.cell? ⟨B, 3, none⟩ = some x3 ∧ w.cell? ⟨B, 4, none⟩ = some x4 ∧ w.cell? ⟨B, 5, none⟩ = some x5) ∧ (w.frozen? ⟨B, 0, none⟩ = false ∧ w.frozen? ⟨B, 1, none⟩ = false ∧ w.frozen? ⟨B, 2, none⟩ = false ∧ w.frozen? ⟨B, 3, none⟩ = false ∧ w.frozen? ⟨B, 4, none⟩ = false ∧ w.frozen? ⟨B, 5, none⟩ = false) := by
  refine ⟨⟨?_, ?_, ?_, ?_, ?_, ?_⟩, ⟨?_, ?_, ?_, ?_, ?_, ?_⟩⟩ <;> simp [World.cell?, World.frozen?, h]
theorem set6 {w : World} {B : Nat} {x0 x1 x2 x3 x4 x5 : Value} {t : TypeId} (h : w.heap[B]? = some (.cells #[x0, x1, x2, x3, x4, x5] t (0, 0))) (y0 y1 y2 y3 y4 y5 : Value) :
    ((((((w.setCell ⟨B, 0, none⟩ y0).setCell ⟨B, 1, none⟩ y1).setCell ⟨B, 2, none⟩ y2).setCell ⟨B, 3, none⟩ y3).setCell ⟨B, 4, none⟩ y4).setCell ⟨B, 5, none⟩ y5).heap[B]? = some (.cells #[y0, y1, y2, y3, y4, y5] t (0, 0)) := by
  rw [heap_set (heap_set (heap_set (heap_set (heap_set (heap_set h 0 y0) 1 y1) 2 y2) 3 y3) 4 y4) 5 y5]; rfl
theorem belset6 {N : Nat} {w0 w : World} {B : Nat} (h : Below N w0 w) (hB : N ≤ B) (y0 y1 y2 y3 y4 y5 : Value) : Below N w0 ((((((w.setCell ⟨B, 0, none⟩ y0).setCell ⟨B, 1, none⟩ y1).setCell ⟨B, 2, none⟩ y2).setCell ⟨B, 3, none⟩ y3).setCell ⟨B, 4, none⟩ y4).setCell ⟨B, 5, none⟩ y5) :=
  bel_set (bel_set (bel_set (bel_set (bel_set (bel_set h hB _) hB _) hB _) hB _) hB _) hB _
theorem grownset6 (w : World) (B : Nat) (y0 y1 y2 y3 y4 y5 : Value) : w.grownBy ((((((w.setCell ⟨B, 0, none⟩ y0).setCell ⟨B, 1, none⟩ y1).setCell ⟨B, 2, none⟩ y2).setCell ⟨B, 3, none⟩ y3).setCell ⟨B, 4, none⟩ y4).setCell ⟨B, 5, none⟩ y5) (some B) :=
  grown_trans (grown_trans (grown_trans (grown_trans (grown_trans (grown_set _ _ _ _) (grown_set _ _ _ _) (fun _ e => .inl e)) (grown_set _ _ _ _) (fun _ e => .inl e)) (grown_set _ _ _ _) (fun _ e => .inl e)) (grown_set _ _ _ _) (fun _ e => .inl e)) (grown_set _ _ _ _) (fun _ e => .inl e)
end Go.Proofs.YtnahghldlkjleaaGreatDoor.Cd
namespace Go.Proofs.YtnahghldlkjleaaGreatDoor.Cd
open Go.RowKit Go.Shelf

theorem rrI {w0 w : World} {R : Nat} {l : List UInt8} {a e n a' e' : Nat} (h : Rr w0 w R l a e) (hr : Hid (rdN l (a, e) = (n, (a', e')))) :
    Calls Tryz.prog 211 #[.pointer (some ⟨R, 0, none⟩)] w fun r w' => r = .returned (.int .i64 (n : Int)) ∧ Rr w0 w' R l a' e' := rrInt_any h hr.out
theorem rrB {w0 w : World} {R : Nat} {l t : List UInt8} {a e a' e' : Nat} {most : Int} (h : Rr w0 w R l a e) (hr : Hid (rdB l most (a, e) = (t, (a', e')))) :
    Calls Tryz.prog 259 #[.pointer (some ⟨R, 0, none⟩), .int .i64 most] w fun r w' => ∃ v, r = .returned v ∧ Ow w.heap.size w' v t ∧ Rr w0 w' R l a' e' ∧ w.heap.size ≤ w'.heap.size := rrBytes_any most h hr.out
theorem rqI {w0 w : World} {Q : Nat} {v : Value} {l : List UInt8} {a e n a' e' : Nat} (h : Rq w0 w Q v l a e) (hr : Hid (rdN l (a, e) = (n, (a', e')))) :
    Calls Tryz.prog 177 #[.pointer (some ⟨Q, 0, none⟩)] w fun r w' => r = .returned (.int .i64 (n : Int)) ∧ Rq w0 w' Q v l a' e' := rqInt_any h hr.out
theorem rqB {w0 w : World} {Q : Nat} {v : Value} {l t : List UInt8} {a e a' e' : Nat} {most : Int} (h : Rq w0 w Q v l a e) (hr : Hid (rdB l most (a, e) = (t, (a', e')))) :
    Calls Tryz.prog 179 #[.pointer (some ⟨Q, 0, none⟩), .int .i64 most] w fun r w' => ∃ u, r = .returned u ∧ Sl w'.heap.size w' u t ∧ Rq w0 w' Q v l a' e' := rqBytes_any most h hr.out
end Go.Proofs.YtnahghldlkjleaaGreatDoor.Cd
namespace Go.Proofs.YtnahghldlkjleaaGreatDoor.Cd
open Go.RowKit Go.Shelf

end Go.Proofs.YtnahghldlkjleaaGreatDoor.Cd
namespace Go.Proofs.YtnahghldlkjleaaGreatDoor.Cd
open Go.RowKit Go.Shelf

end Go.Proofs.YtnahghldlkjleaaGreatDoor.Cd
