/-
  A reader of wire: Bytes and Text.
-/
import Derived.Test.YtfnnbfgfmbiababRdr
import Derived.Laws.IdiomStrings
namespace Go.Proofs.Ytfnnbfgfmbiabab
open Go.RowKit Go.Shelf

/-- What take finds: the bytes, the place behind them, the error. -/
def takeAt (l : List UInt8) (a e : Nat) (most : Int) : List UInt8 × Nat × Nat :=
  if (pk l a e).2.2 ≠ 0 then ([], a, (pk l a e).2.2)
  else if max most 0 < ((pk l a e).1 : Int) then ([], a, 3)
  else if l.length - (a + (pk l a e).2.1) < (pk l a e).1 then ([], a, 2)
  else ((l.drop (a + (pk l a e).2.1)).take (pk l a e).1, a + (pk l a e).2.1 + (pk l a e).1, 0)

theorem intAt_in (l : List UInt8) (a : Nat) (h : (intAt l a).2.2 = 0) : a < l.length := by
  unfold intAt at h
  split at h
  · simp at h
  · omega

theorem pk_in (l : List UInt8) (a e : Nat) (h : (pk l a e).2.2 = 0) : a < l.length := by
  unfold pk at h
  split at h
  · exact intAt_in l a h
  · rename_i h'; exact absurd h h'

/-- The reader's own bytes, at an address. -/
theorem Ow.at0 {N : Nat} {w : World} {b : Option Addr} {cap : Nat} {l : List UInt8} (h : Ow N w (.slice b l.length cap) l) (hl : 0 < l.length) : ∃ g, b = some ⟨g, 0, none⟩ ∧ g < w.heap.size ∧ l.length ≤ cap ∧ cap ≤ maxLen ∧ CellsAt w g 0 l := by
  have h' := h.sl (M := w.heap.size) (Nat.le_refl _)
  rcases h.2 with ⟨h0, h1⟩ | ⟨g, cap', cur, hv, hg, hh, hc1, hc2, hc3, hc4⟩
  · omega
  · cases hv
    obtain ⟨a, c, e, -, -, h3⟩ := h'
    cases e
    obtain ⟨b', off, e2, hb, hc⟩ := h3.resolve_left (by intro h; rw [h] at hl; simp at hl)
    cases e2
    exact ⟨g, rfl, hb, hc1, hc2, hc⟩

theorem Ow.base {N N' : Nat} {w : World} {v : Value} {l : List UInt8} (h : Ow N w v l) (hN : N' ≤ N) : Ow N' w v l := by
  refine ⟨h.1, ?_⟩
  rcases h.2 with h2 | ⟨g, cap, cur, hv, hg, r⟩
  · exact .inl h2
  · exact .inr ⟨g, cap, cur, hv, by omega, r⟩

theorem Sl.nil (M : Nat) (w : World) : Sl M w (.slice none 0 0) [] := ⟨none, 0, rfl, by simp, by unfold maxLen; omega, .inl rfl⟩

theorem sl_zero {M : Nat} {w : World} (a : Option Addr) (n f : Nat) (l : List UInt8) (hn : n = 0) : Sl M w (.slice a n 0) ((l.drop f).take n) := by
  subst hn
  exact ⟨a, 0, by simp, by simp, by unfold maxLen; omega, .inl (by simp)⟩

theorem grown_drewN (w : World) (n : Nat) : w.grownBy (w.drewN n) none := ⟨rfl, rfl, rfl, Nat.le_refl _, fun _ _ _ => rfl⟩

/-- A piece of the reader's bytes. -/
theorem take_sl {w1 : World} {R g cap f n : Nat} {l : List UInt8} {u : Value} (hgl : g < w1.heap.size) (hne : g ≠ R) (hcm : cap ≤ maxLen) (hlc : l.length ≤ cap) (hfn : f + n ≤ l.length) (hc : CellsAt w1 g 0 l) (nq : Nat) :
    Sl (((w1.setCell ⟨R, 1, none⟩ u).drewN nq)).heap.size ((w1.setCell ⟨R, 1, none⟩ u).drewN nq) (.slice (some ⟨g, f, none⟩) n (cap - f)) ((l.drop f).take n) := by
  have hlen : ((l.drop f).take n).length = n := by simp; omega
  refine ⟨some ⟨g, f, none⟩, cap - f, by rw [hlen], by rw [hlen]; omega, by omega, .inr ⟨g, f, rfl, ?_, fun i hi => ?_⟩⟩
  · show g < (w1.setCell ⟨R, 1, none⟩ u).heap.size
    simpa [World.setCell] using hgl
  · rw [hlen] at hi
    have h1 : ((w1.setCell ⟨R, 1, none⟩ u).drewN nq).cell? ⟨g, f + i, none⟩ = w1.cell? ⟨g, f + i, none⟩ := by
      show (w1.setCell ⟨R, 1, none⟩ u).cell? ⟨g, f + i, none⟩ = _
      exact World.cell?_of_block (Below.heap_setCell _ _ _ g hne)
    have h2 := hc (f + i) (by omega)
    rw [Nat.zero_add] at h2
    rw [h1, h2]
    simp [encB, byteAt, hi, List.getElem?_drop]

set_option maxRecDepth 100000 in
set_option maxHeartbeats 2000000 in
theorem take_any (N R : Nat) (l : List UInt8) (a e : Nat) (most : Int) (w : World) (h : Rdr N w R l a e) (hl : l.length ≤ 1099511627776) (ha : a ≤ l.length) :
    Calls Try.prog 110 #[.pointer (some ⟨R, 0, none⟩), .int .i64 most] w fun r w' =>
      ∃ v, r = .returned v ∧ Sl w'.heap.size w' v (takeAt l a e most).1 ∧ Rdr N w' R l (takeAt l a e most).2.1 (takeAt l a e most).2.2 ∧ w.grownBy w' (some R) := by
  have hp := peek_pk N R l a e w h
  have hbd := pk_bd l a e
  have hin := pk_in l a e
  unfold takeAt
  generalize pk l a e = p at *
  obtain ⟨n, s, e'⟩ := p
  obtain ⟨b1, b2, b3, -⟩ := hbd
  simp only at hp b1 b2 b3 hin ⊢
  have b4 := b3 ha
  by_cases he : e' = 0
  · subst he
    have hin' := hin rfl
    rw [if_neg (by simp)]
    clear hin b3
    have hcase : (most < 0 ∧ max most 0 = 0) ∨ (¬ most < 0 ∧ max most 0 = most) := by omega
    rcases hcase with ⟨hneg, hmx⟩ | ⟨hneg, hmx⟩
    all_goals
      rw [hmx]
      clear hmx
    · by_cases hm : (0 : Int) < (n : Int)
      · rw [if_pos hm]
        go_enter Try.func110, Try.ntmps110
        go_wp2_with (go_at_call 96; refine hp.mono ?_; rintro r w1 ⟨rfl, h1, hg⟩; obtain ⟨_, _, _, _, k1, k2, _, f2⟩ := h1.cells)
        go_ret
        exact ⟨_, rfl, Sl.nil _ _, h1.err 3, grown_trans hg (grown_set _ _ _ _) (fun k e => .inl e)⟩
      · rw [if_neg hm]
        have hs : ¬ (l.length - (a + s) < n) := by omega
        rw [if_neg hs]
        have hs' : (n : Int) ≤ (l.length : Int) - ((a : Int) + (s : Int)) := by omega
        go_enter Try.func110, Try.ntmps110
        go_wp2_with (go_at_call 96; refine hp.mono ?_; rintro r w1 ⟨rfl, h1, hg⟩; obtain ⟨b, cap, hO, k0, k1, k2, f1, f2⟩ := h1.cells; obtain ⟨g, rfl, hgl, hlc, hcm, hcl⟩ := hO.at0 (by omega); have HCL : Hid (CellsAt w1 g 0 l) := hcl; clear hcl)
        have h2 : Rdr N (w1.setCell ⟨R, 1, none⟩ (.int .i64 ((a : Int) + (s : Int) + (n : Int)))) R l (a + s + n) 0 := by simpa using h1.at' (a + s + n)
        have hne : g ≠ R := fun e => by
          obtain ⟨_, v, hR, _⟩ := h1
          exact hO.not_at hR (by decide) (by simp [Value.ownBlock, e])
        have HS : Hid (∀ nq, Sl (((w1.setCell ⟨R, 1, none⟩ (.int .i64 ((a : Int) + (s : Int) + (n : Int)))).drewN nq)).heap.size ((w1.setCell ⟨R, 1, none⟩ (.int .i64 ((a : Int) + (s : Int) + (n : Int)))).drewN nq) (.slice (some ⟨g, a + s, none⟩) n (cap - (a + s))) ((l.drop (a + s)).take n)) :=
          fun nq => take_sl hgl hne hcm hlc (by omega) HCL.out nq
        have HR : Hid (∀ nq, Rdr N ((w1.setCell ⟨R, 1, none⟩ (.int .i64 ((a : Int) + (s : Int) + (n : Int)))).drewN nq) R l (a + s + n) 0) := fun nq => h2.drewN nq
        have HG : Hid (∀ nq, w.grownBy ((w1.setCell ⟨R, 1, none⟩ (.int .i64 ((a : Int) + (s : Int) + (n : Int)))).drewN nq) (some R)) := fun nq =>
          grown_trans (grown_trans hg (grown_set _ _ _ _) (fun k e => .inl e)) (grown_drewN _ nq) (by simp)
        obtain ⟨b2', cap2', hO2, k0', k1', k2', -, -⟩ := h2.cells
        have k0'' : (w1.setCell ⟨R, 1, none⟩ (.int .i64 ((a : Int) + (s : Int) + (n : Int)))).cell? ⟨R, 0, none⟩ = some (.slice (some ⟨g, 0, none⟩) l.length cap) := by rw [World.cell?_setCell_other _ _ _ _ (by simp)]; exact k0
        have k1'' : (w1.setCell ⟨R, 1, none⟩ (.int .i64 ((a : Int) + (s : Int) + (n : Int)))).cell? ⟨R, 1, none⟩ = some (.int .i64 ((a : Int) + (s : Int) + (n : Int))) := by simpa using k1'
        unfold maxLen at hcm
        clear k0' k1' k2' hO2 h2 hO h1 hg
        go_quiet (fail)
        go_wp2
        · go_ret
          refine ⟨_, rfl, ?_, HR.out _, HG.out _⟩
          exact sl_zero _ _ _ _ (by omega)
        · go_ret
          exact ⟨_, rfl, HS.out _, HR.out _, HG.out _⟩
    · by_cases hm : most < (n : Int)
      · rw [if_pos hm]
        go_enter Try.func110, Try.ntmps110
        go_wp2_with (go_at_call 96; refine hp.mono ?_; rintro r w1 ⟨rfl, h1, hg⟩; obtain ⟨_, _, _, _, k1, k2, _, f2⟩ := h1.cells)
        go_ret
        exact ⟨_, rfl, Sl.nil _ _, h1.err 3, grown_trans hg (grown_set _ _ _ _) (fun k e => .inl e)⟩
      · rw [if_neg hm]
        by_cases hs : l.length - (a + s) < n
        · rw [if_pos hs]
          have hs' : (l.length : Int) - ((a : Int) + (s : Int)) < (n : Int) := by omega
          go_enter Try.func110, Try.ntmps110
          go_wp2_with (go_at_call 96; refine hp.mono ?_; rintro r w1 ⟨rfl, h1, hg⟩; obtain ⟨_, _, _, k0, k1, k2, _, f2⟩ := h1.cells)
          go_ret
          exact ⟨_, rfl, Sl.nil _ _, h1.err 2, grown_trans hg (grown_set _ _ _ _) (fun k e => .inl e)⟩
        · rw [if_neg hs]
          have hs' : (n : Int) ≤ (l.length : Int) - ((a : Int) + (s : Int)) := by omega
          go_enter Try.func110, Try.ntmps110
          go_wp2_with (go_at_call 96; refine hp.mono ?_; rintro r w1 ⟨rfl, h1, hg⟩; obtain ⟨b, cap, hO, k0, k1, k2, f1, f2⟩ := h1.cells; obtain ⟨g, rfl, hgl, hlc, hcm, hcl⟩ := hO.at0 (by omega); have HCL : Hid (CellsAt w1 g 0 l) := hcl; clear hcl)
          have h2 : Rdr N (w1.setCell ⟨R, 1, none⟩ (.int .i64 ((a : Int) + (s : Int) + (n : Int)))) R l (a + s + n) 0 := by simpa using h1.at' (a + s + n)
          have hne : g ≠ R := fun e => by
            obtain ⟨_, v, hR, _⟩ := h1
            exact hO.not_at hR (by decide) (by simp [Value.ownBlock, e])
          have HS : Hid (∀ nq, Sl (((w1.setCell ⟨R, 1, none⟩ (.int .i64 ((a : Int) + (s : Int) + (n : Int)))).drewN nq)).heap.size ((w1.setCell ⟨R, 1, none⟩ (.int .i64 ((a : Int) + (s : Int) + (n : Int)))).drewN nq) (.slice (some ⟨g, a + s, none⟩) n (cap - (a + s))) ((l.drop (a + s)).take n)) :=
            fun nq => take_sl hgl hne hcm hlc (by omega) HCL.out nq
          have HR : Hid (∀ nq, Rdr N ((w1.setCell ⟨R, 1, none⟩ (.int .i64 ((a : Int) + (s : Int) + (n : Int)))).drewN nq) R l (a + s + n) 0) := fun nq => h2.drewN nq
          have HG : Hid (∀ nq, w.grownBy ((w1.setCell ⟨R, 1, none⟩ (.int .i64 ((a : Int) + (s : Int) + (n : Int)))).drewN nq) (some R)) := fun nq =>
            grown_trans (grown_trans hg (grown_set _ _ _ _) (fun k e => .inl e)) (grown_drewN _ nq) (by simp)
          obtain ⟨b2', cap2', hO2, k0', k1', k2', -, -⟩ := h2.cells
          have k0'' : (w1.setCell ⟨R, 1, none⟩ (.int .i64 ((a : Int) + (s : Int) + (n : Int)))).cell? ⟨R, 0, none⟩ = some (.slice (some ⟨g, 0, none⟩) l.length cap) := by rw [World.cell?_setCell_other _ _ _ _ (by simp)]; exact k0
          have k1'' : (w1.setCell ⟨R, 1, none⟩ (.int .i64 ((a : Int) + (s : Int) + (n : Int)))).cell? ⟨R, 1, none⟩ = some (.int .i64 ((a : Int) + (s : Int) + (n : Int))) := by simpa using k1'
          unfold maxLen at hcm
          clear k0' k1' k2' hO2 h2 hO h1 hg
          go_quiet (fail)
          go_wp2
          · go_ret
            refine ⟨_, rfl, ?_, HR.out _, HG.out _⟩
            exact sl_zero _ _ _ _ (by omega)
          · go_ret
            exact ⟨_, rfl, HS.out _, HR.out _, HG.out _⟩
  · rw [if_pos he]
    have he' : ((e' : Int) != 0) = true := by simp; omega
    go_enter Try.func110, Try.ntmps110
    go_wp2_with (go_at_call 96; refine hp.mono ?_; rintro r w1 ⟨rfl, h1, hg⟩; obtain ⟨_, _, _, _, k1, k2, _, f2⟩ := h1.cells)
    go_ret
    exact ⟨_, rfl, Sl.nil _ _, h1, hg⟩

set_option maxRecDepth 100000 in
set_option maxHeartbeats 1000000 in
theorem rBytes_any (N R : Nat) (l : List UInt8) (a e : Nat) (most : Int) (w : World) (h : Rdr N w R l a e) (hl : l.length ≤ 1099511627776) (ha : a ≤ l.length) :
    Calls Try.prog 107 #[.pointer (some ⟨R, 0, none⟩), .int .i64 most] w fun r w' =>
      ∃ v, r = .returned v ∧ Ow w.heap.size w' v (takeAt l a e most).1 ∧ Rdr N w' R l (takeAt l a e most).2.1 (takeAt l a e most).2.2 ∧ w.grownBy w' (some R) := by
  have hp := take_any N R l a e most w h hl ha
  have hlen : (takeAt l a e most).1.length ≤ 1099511627776 := by
    unfold takeAt
    split
    · simp
    · split
      · simp
      · split
        · simp
        · simp; omega
  generalize takeAt l a e most = p at *
  obtain ⟨t, a', e'⟩ := p
  simp only at hp hlen ⊢
  go_enter Try.func107, Try.ntmps107
  go_wp2_with (first
    | (go_at_call 110; refine hp.mono ?_; rintro r w1 ⟨v1, rfl, hs1, h1, hg1⟩; obtain ⟨b, cap, rfl, -⟩ := id hs1)
    | (go_at_call 77; refine (fresh_any _ _ t _ hs1 hlen).mono ?_; rintro r w2 ⟨v2, rfl, hO2, hB2⟩))
  go_ret
  exact ⟨v2, rfl, hO2.base hg1.size, h1.below hB2 (Nat.le_refl _), grown_trans hg1 (Below.grownBy' hB2 none) (by simp)⟩

/-- 'string(b)' of bytes in memory. -/
theorem conv_sl {M : Nat} {w : World} {v : Value} {l : List UInt8} (h : Sl M w v l) : (convert 23 9 v).run Try.prog w = .ok (.string ⟨l.toArray⟩) w := by
  obtain ⟨a, cap, rfl, _, _, h3⟩ := h
  rcases h3 with rfl | ⟨b, off, rfl, hb, hc⟩
  · cases a with
    | none =>
      show (convert 23 9 (.slice none 0 cap)).run Try.prog w = _
      rw [run_convert_bytes_string w 23 9 5 none 0 cap Try.underlying23 Try.underlying5 Try.underlying9]
      simp [Conv.bytesToString]
      rfl
    | some ad => exact run_convert_bytes_back w 23 9 5 ad cap [] Try.underlying23 Try.underlying5 Try.underlying9 (by simp)
  · refine run_convert_bytes_back w 23 9 5 _ cap l Try.underlying23 Try.underlying5 Try.underlying9 (fun j hj => ?_)
    rw [Addr.add_lit, hc j hj]
    simp [encB, hj]

set_option maxRecDepth 100000 in
set_option maxHeartbeats 1000000 in
theorem rText_any (N R : Nat) (l : List UInt8) (a e : Nat) (most : Int) (w : World) (h : Rdr N w R l a e) (hl : l.length ≤ 1099511627776) (ha : a ≤ l.length) :
    Calls Try.prog 135 #[.pointer (some ⟨R, 0, none⟩), .int .i64 most] w fun r w' =>
      r = .returned (.string ⟨(takeAt l a e most).1.toArray⟩) ∧ Rdr N w' R l (takeAt l a e most).2.1 (takeAt l a e most).2.2 ∧ w.grownBy w' (some R) := by
  have hp := take_any N R l a e most w h hl ha
  generalize takeAt l a e most = p at *
  obtain ⟨t, a', e'⟩ := p
  simp only at hp ⊢
  go_enter Try.func135, Try.ntmps135
  go_wp2_with (go_at_call 110; refine hp.mono ?_; rintro r w1 ⟨v1, rfl, hs1, h1, hg1⟩; have hcv := conv_sl hs1; obtain ⟨b, cap, rfl, -⟩ := id hs1)
  go_ret
  exact ⟨rfl, h1, hg1⟩
end Go.Proofs.Ytfnnbfgfmbiabab
