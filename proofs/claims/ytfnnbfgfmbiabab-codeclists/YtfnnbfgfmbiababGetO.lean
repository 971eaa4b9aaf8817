/-
  A thing within bytes.
-/
import Derived.Test.YtfnnbfgfmbiababGetN
namespace Go.Proofs.Ytfnnbfgfmbiabab
open Go.RowKit Go.Shelf

theorem Rr.set {w0 w : World} {R : Nat} {l : List UInt8} {p e k o : Nat} {v : Value} (h : Rr w0 w R l p e) (hk : R < k) : Rr w0 (w.setCell ⟨k, o, none⟩ v) R l p e :=
  ⟨h.rdr.kept (grown_set w k o v) (.inl hk), h.bel.setCell (p := ⟨k, o, none⟩) (by show w0.heap.size ≤ k; have := h.rdr.le; omega) v, h.len, h.le⟩

/-- Bytes are read, and a block behind the reader stays. -/
theorem rrK {w0 w : World} {R X : Nat} {l t : List UInt8} {p e p' e' : Nat} {size : Int} {cs : Array Value} {ty : TypeId} {z : Nat × Nat} (h : Rr w0 w R l p e) (hr : Hid (rdB l size (p, e) = (t, (p', e')))) (hX : w.heap.size = X + 1) (hc : w.heap[X]? = some (.cells cs ty z)) (hR : R < X) :
    Calls Try.prog 107 #[.pointer (some ⟨R, 0, none⟩), .int .i64 size] w fun r w' => ∃ v, r = .returned v ∧ Ow w.heap.size w' v t ∧ Rr w0 w' R l p' e' ∧ w'.heap[X]? = some (.cells cs ty z) ∧ w.grownBy w' (some R) := by
  have hle := rdB_le l size (p, e) h.le
  refine (rBytes_any _ R l p e size w h.rdr h.len h.le).mono ?_
  rintro r w' ⟨v, rfl, hO, h', hg⟩
  have h2 := hr.out
  rw [h2] at hle
  simp only [rdB, Prod.mk.injEq] at h2
  obtain ⟨rfl, rfl, rfl⟩ := h2
  exact ⟨v, rfl, hO, h.turn h' hg hle, (hg.block X (by omega) (by simp; omega)).trans hc, hg⟩

set_option maxRecDepth 100000 in
set_option maxHeartbeats 8000000 in
theorem getOneSnap_any {w0 w : World} {R : Nat} {l t : List UInt8} {p e p' e' : Nat} (size : Int) (h : Rr w0 w R l p e) (hr : Hid (rdB l size (p, e) = (t, (p', e')))) (G : Nat × Nat × List UInt8) (E : Nat) (hG : G = if e' ≠ 0 then (0, 0, []) else goSnap t) (hE : E = if e' ≠ 0 then e' else geSnap t) :
    Calls Try.prog 98 #[.pointer (some ⟨R, 0, none⟩), .iface 145 (.agg #[]), .int .i64 size] w fun r w' =>
      ∃ u, r = .returned (.tuple #[.agg #[.int .i64 (G.1 : Int), .int .i64 (G.2.1 : Int), u], .int .i64 (E : Int)]) ∧ Ow w.heap.size w' u G.2.2 ∧ Rr w0 w' R l p' e' ∧ w.grownBy w' (some R) := by
  have htl : t.length ≤ 1099511627776 := by
    have := h.len
    have h2 := hr.out
    simp only [rdB, Prod.mk.injEq] at h2
    obtain ⟨rfl, -, -⟩ := h2
    unfold takeAt
    split
    · simp
    · split
      · simp
      · split
        · simp
        · simp; omega
  obtain ⟨W0, hW0⟩ : ∃ W0, w.alloc (.cells #[.int .i64 0, .int .i64 0, .slice none 0 0] 47) = W0 := ⟨_, rfl⟩
  have HW0 : Hid (w.alloc (.cells #[.int .i64 0, .int .i64 0, .slice none 0 0] 47) = W0) := hW0
  have hBx : Below w.heap.size w W0 := by rw [← hW0]; exact (Below.refl _ w).alloc (Nat.le_refl _) _
  have HS : Hid (W0.heap.size = w.heap.size + 1) := by show W0.heap.size = _; rw [← hW0]; simp
  have HR : Hid (W0.heap[w.heap.size]? = some (.cells #[.int .i64 0, .int .i64 0, .slice none 0 0] 47 (0, 0))) := by
    show W0.heap[w.heap.size]? = _
    rw [← hW0]; exact World.alloc_heap_new w _
  have hRl := h.rdr.lt
  have hWz : w.heap.size < W0.heap.size := by have := HS.out; omega
  have h0 := h.mono hBx
  have HBx : Hid (Below w.heap.size w W0) := hBx
  clear hW0 hBx
  have hff := fail_bytes l t size p e p' e' hr.out
  have HFF : Hid (∀ w', Rr w0 w' R l p' e' → Calls Try.prog 95 #[.pointer (some ⟨R, 0, none⟩), .int .i64 (p : Int)] w' fun r w'' => r = .returned (.int .i64 (e' : Int)) ∧ Below w'.heap.size w' w'') := fun w' h' => by
    have := failure_any p h'
    rw [hff.1] at this
    exact this
  clear hff
  by_cases he : e' = 0
  · subst he
    rw [if_neg (by simp)] at hG hE
    obtain ⟨G0, G1, G2⟩ := G
    have HGe : Hid (goSnap t = (G0, G1, G2)) := hG.symm
    have HEe : Hid (geSnap t = E) := hE.symm
    clear hG hE
    simp only
    go_enter Try.func98, Try.ntmps98
    go_wp2_with fail
    rw [HW0.out]
    refine (rrAt_any h0).mono ?_
    rintro r w1 ⟨rfl, hw⟩
    subst w1
    go_wp2_with fail
    refine (rrK h0 hr HS.out HR.out (by omega)).mono ?_
    rintro r w2 ⟨v2, rfl, hO2, h2, hR2, hg2⟩
    have hz2 := hg2.size
    have HG2 : Hid (w.grownBy w2 (some R)) := grown_trans (Below.grownBy' HBx.out (some R)) hg2 (fun k e => .inl e)
    clear hg2
    obtain ⟨va, vc, rfl, -, -⟩ := hO2.shape
    go_wp2_with fail
    refine (HFF.out _ h2).mono ?_
    rintro r w3 ⟨rfl, hB3⟩
    have h3 := h2.mono hB3
    have HG3 : Hid (w.grownBy w3 (some R)) := grown_trans HG2.out (Below.grownBy' hB3 none) (by simp)
    have hR3 := (hB3.block w.heap.size (by omega)).trans hR2
    have hz3 := hB3.size
    have hO3 := (hO2.below hB3 (Nat.le_refl _)).sl (Nat.le_refl w3.heap.size)
    clear hB3 hR2 h2 hO2
    go_wp2_with fail
    refine (getSnap_any t _ w3.heap.size w3 hO3 (Nat.le_refl _) htl).mono ?_
    rw [HGe.out, HEe.out]
    simp only
    rintro r w4 ⟨u4, rfl, hO4, hB4⟩
    have h4 := h3.mono hB4
    have HG4 : Hid (w.grownBy w4 (some R)) := grown_trans HG3.out (Below.grownBy' hB4 none) (by simp)
    have HR4 : Hid (w4.heap[w.heap.size]? = some (.cells #[.int .i64 0, .int .i64 0, .slice none 0 0] 47 (0, 0))) := (hB4.block w.heap.size (by omega)).trans hR3
    have hz4 := hB4.size
    obtain ⟨ua, uc, rfl, -, -⟩ := hO4.shape
    obtain ⟨⟨r0, r1, r2⟩, f0, f1, f2⟩ := cells3 HR4.out
    have hO5 := hO4.base (N' := w.heap.size) (by omega)
    clear hO4 hB4 h3 hR3 hO3
    go_wp2
    refine bodyPost_ret (results_57 rfl _ _ w.heap.size rfl (set3 HR4.out _ _ _)) rfl ?_
    refine ⟨_, rfl, hO5.kept (grownset3 w4 w.heap.size _ _ _) (.inr (hO5.not_at HR4.out (by decide))), ?_, ?_⟩
    · exact Rr.set (Rr.set (Rr.set h4 hRl) hRl) hRl
    · exact grown_trans HG4.out (grownset3 w4 w.heap.size _ _ _) (fun k e => .inr (by cases e; exact Nat.le_refl _))
  · rw [if_pos he] at hG hE
    subst hG hE
    simp only
    have hke : ((E : Int) != 0) = true := by simp; omega
    go_enter Try.func98, Try.ntmps98
    go_wp2_with fail
    rw [HW0.out]
    refine (rrAt_any h0).mono ?_
    rintro r w1 ⟨rfl, hw⟩
    subst w1
    go_wp2_with fail
    refine (rrK h0 hr HS.out HR.out (by omega)).mono ?_
    rintro r w2 ⟨v2, rfl, hO2, h2, hR2, hg2⟩
    have hz2 := hg2.size
    have HG2 : Hid (w.grownBy w2 (some R)) := grown_trans (Below.grownBy' HBx.out (some R)) hg2 (fun k e => .inl e)
    clear hg2
    obtain ⟨va, vc, rfl, -, -⟩ := hO2.shape
    go_wp2_with fail
    refine (HFF.out _ h2).mono ?_
    rintro r w3 ⟨rfl, hB3⟩
    have h3 := h2.mono hB3
    have HG3 : Hid (w.grownBy w3 (some R)) := grown_trans HG2.out (Below.grownBy' hB3 none) (by simp)
    have hR3 := (hB3.block w.heap.size (by omega)).trans hR2
    have hz3 := hB3.size
    have hB4 : Below w3.heap.size w3 (w3.alloc (.cells #[.int .i64 0, .int .i64 0, .slice none 0 0] 47)) := (Below.refl _ _).alloc (Nat.le_refl _) _
    have h4 := h3.mono hB4
    have HG4 : Hid (w.grownBy (w3.alloc (.cells #[.int .i64 0, .int .i64 0, .slice none 0 0] 47)) (some R)) := grown_trans HG3.out (Below.grownBy' hB4 none) (by simp)
    have HR4 : Hid ((w3.alloc (.cells #[.int .i64 0, .int .i64 0, .slice none 0 0] 47)).heap[w.heap.size]? = some (.cells #[.int .i64 0, .int .i64 0, .slice none 0 0] 47 (0, 0))) := (hB4.block w.heap.size (by omega)).trans hR3
    obtain ⟨⟨r0, r1, r2⟩, f0, f1, f2⟩ := cells3 HR4.out
    clear hB3 hR2 h2 hO2 hR3 h3 hB4
    go_wp2
    refine bodyPost_ret (results_57 rfl _ _ w.heap.size rfl (set3 HR4.out _ _ _)) rfl ?_
    refine ⟨.slice none 0 0, rfl, Ow.nil _ _, ?_, ?_⟩
    · exact Rr.set (Rr.set (Rr.set h4 hRl) hRl) hRl
    · exact grown_trans HG4.out (grownset3 (w3.alloc (.cells #[.int .i64 0, .int .i64 0, .slice none 0 0] 47)) w.heap.size _ _ _) (fun k e => .inr (by cases e; exact Nat.le_refl _))

set_option maxRecDepth 100000 in
set_option maxHeartbeats 8000000 in
theorem getOneEntry_any {w0 w : World} {R : Nat} {l t : List UInt8} {p e p' e' : Nat} (size : Int) (h : Rr w0 w R l p e) (hr : Hid (rdB l size (p, e) = (t, (p', e')))) (G : Nat × Nat × Nat × List UInt8) (E : Nat) (hG : G = if e' ≠ 0 then (0, 0, 0, []) else goEntry t) (hE : E = if e' ≠ 0 then e' else geEntry t) :
    Calls Try.prog 103 #[.pointer (some ⟨R, 0, none⟩), .iface 31 (.agg #[]), .int .i64 size] w fun r w' =>
      ∃ u, r = .returned (.tuple #[.agg #[.int .i64 (G.1 : Int), .int .i64 (G.2.1 : Int), .int .i64 (G.2.2.1 : Int), u], .int .i64 (E : Int)]) ∧ Ow w.heap.size w' u G.2.2.2 ∧ Rr w0 w' R l p' e' ∧ w.grownBy w' (some R) := by
  have htl : t.length ≤ 1099511627776 := by
    have := h.len
    have h2 := hr.out
    simp only [rdB, Prod.mk.injEq] at h2
    obtain ⟨rfl, -, -⟩ := h2
    unfold takeAt
    split
    · simp
    · split
      · simp
      · split
        · simp
        · simp; omega
  obtain ⟨W0, hW0⟩ : ∃ W0, w.alloc (.cells #[.int .i64 0, .int .i64 0, .int .i64 0, .slice none 0 0] 26) = W0 := ⟨_, rfl⟩
  have HW0 : Hid (w.alloc (.cells #[.int .i64 0, .int .i64 0, .int .i64 0, .slice none 0 0] 26) = W0) := hW0
  have hBx : Below w.heap.size w W0 := by rw [← hW0]; exact (Below.refl _ w).alloc (Nat.le_refl _) _
  have HS : Hid (W0.heap.size = w.heap.size + 1) := by show W0.heap.size = _; rw [← hW0]; simp
  have HR : Hid (W0.heap[w.heap.size]? = some (.cells #[.int .i64 0, .int .i64 0, .int .i64 0, .slice none 0 0] 26 (0, 0))) := by
    show W0.heap[w.heap.size]? = _
    rw [← hW0]; exact World.alloc_heap_new w _
  have hRl := h.rdr.lt
  have hWz : w.heap.size < W0.heap.size := by have := HS.out; omega
  have h0 := h.mono hBx
  have HBx : Hid (Below w.heap.size w W0) := hBx
  clear hW0 hBx
  have hff := fail_bytes l t size p e p' e' hr.out
  have HFF : Hid (∀ w', Rr w0 w' R l p' e' → Calls Try.prog 95 #[.pointer (some ⟨R, 0, none⟩), .int .i64 (p : Int)] w' fun r w'' => r = .returned (.int .i64 (e' : Int)) ∧ Below w'.heap.size w' w'') := fun w' h' => by
    have := failure_any p h'
    rw [hff.1] at this
    exact this
  clear hff
  by_cases he : e' = 0
  · subst he
    rw [if_neg (by simp)] at hG hE
    obtain ⟨G0, G1, G2, G3⟩ := G
    have HGe : Hid (goEntry t = (G0, G1, G2, G3)) := hG.symm
    have HEe : Hid (geEntry t = E) := hE.symm
    clear hG hE
    simp only
    go_enter Try.func103, Try.ntmps103
    go_wp2_with fail
    rw [HW0.out]
    refine (rrAt_any h0).mono ?_
    rintro r w1 ⟨rfl, hw⟩
    subst w1
    go_wp2_with fail
    refine (rrK h0 hr HS.out HR.out (by omega)).mono ?_
    rintro r w2 ⟨v2, rfl, hO2, h2, hR2, hg2⟩
    have hz2 := hg2.size
    have HG2 : Hid (w.grownBy w2 (some R)) := grown_trans (Below.grownBy' HBx.out (some R)) hg2 (fun k e => .inl e)
    clear hg2
    obtain ⟨va, vc, rfl, -, -⟩ := hO2.shape
    go_wp2_with fail
    refine (HFF.out _ h2).mono ?_
    rintro r w3 ⟨rfl, hB3⟩
    have h3 := h2.mono hB3
    have HG3 : Hid (w.grownBy w3 (some R)) := grown_trans HG2.out (Below.grownBy' hB3 none) (by simp)
    have hR3 := (hB3.block w.heap.size (by omega)).trans hR2
    have hz3 := hB3.size
    have hO3 := (hO2.below hB3 (Nat.le_refl _)).sl (Nat.le_refl w3.heap.size)
    clear hB3 hR2 h2 hO2
    go_wp2_with fail
    refine (getEntry_any t _ w3.heap.size w3 hO3 (Nat.le_refl _) htl).mono ?_
    rw [HGe.out, HEe.out]
    simp only
    rintro r w4 ⟨u4, rfl, hO4, hB4⟩
    have h4 := h3.mono hB4
    have HG4 : Hid (w.grownBy w4 (some R)) := grown_trans HG3.out (Below.grownBy' hB4 none) (by simp)
    have HR4 : Hid (w4.heap[w.heap.size]? = some (.cells #[.int .i64 0, .int .i64 0, .int .i64 0, .slice none 0 0] 26 (0, 0))) := (hB4.block w.heap.size (by omega)).trans hR3
    have hz4 := hB4.size
    obtain ⟨ua, uc, rfl, -, -⟩ := hO4.shape
    obtain ⟨⟨r0, r1, r2, r3⟩, f0, f1, f2, f3⟩ := cells4 HR4.out
    have hO5 := hO4.base (N' := w.heap.size) (by omega)
    clear hO4 hB4 h3 hR3 hO3
    go_wp2
    refine bodyPost_ret (results_24 rfl _ _ w.heap.size rfl (set4 HR4.out _ _ _ _)) rfl ?_
    refine ⟨_, rfl, hO5.kept (grownset4 w4 w.heap.size _ _ _ _) (.inr (hO5.not_at HR4.out (by decide))), ?_, ?_⟩
    · exact Rr.set (Rr.set (Rr.set (Rr.set h4 hRl) hRl) hRl) hRl
    · exact grown_trans HG4.out (grownset4 w4 w.heap.size _ _ _ _) (fun k e => .inr (by cases e; exact Nat.le_refl _))
  · rw [if_pos he] at hG hE
    subst hG hE
    simp only
    have hke : ((E : Int) != 0) = true := by simp; omega
    go_enter Try.func103, Try.ntmps103
    go_wp2_with fail
    rw [HW0.out]
    refine (rrAt_any h0).mono ?_
    rintro r w1 ⟨rfl, hw⟩
    subst w1
    go_wp2_with fail
    refine (rrK h0 hr HS.out HR.out (by omega)).mono ?_
    rintro r w2 ⟨v2, rfl, hO2, h2, hR2, hg2⟩
    have hz2 := hg2.size
    have HG2 : Hid (w.grownBy w2 (some R)) := grown_trans (Below.grownBy' HBx.out (some R)) hg2 (fun k e => .inl e)
    clear hg2
    obtain ⟨va, vc, rfl, -, -⟩ := hO2.shape
    go_wp2_with fail
    refine (HFF.out _ h2).mono ?_
    rintro r w3 ⟨rfl, hB3⟩
    have h3 := h2.mono hB3
    have HG3 : Hid (w.grownBy w3 (some R)) := grown_trans HG2.out (Below.grownBy' hB3 none) (by simp)
    have hR3 := (hB3.block w.heap.size (by omega)).trans hR2
    have hz3 := hB3.size
    have hB4 : Below w3.heap.size w3 (w3.alloc (.cells #[.int .i64 0, .int .i64 0, .int .i64 0, .slice none 0 0] 26)) := (Below.refl _ _).alloc (Nat.le_refl _) _
    have h4 := h3.mono hB4
    have HG4 : Hid (w.grownBy (w3.alloc (.cells #[.int .i64 0, .int .i64 0, .int .i64 0, .slice none 0 0] 26)) (some R)) := grown_trans HG3.out (Below.grownBy' hB4 none) (by simp)
    have HR4 : Hid ((w3.alloc (.cells #[.int .i64 0, .int .i64 0, .int .i64 0, .slice none 0 0] 26)).heap[w.heap.size]? = some (.cells #[.int .i64 0, .int .i64 0, .int .i64 0, .slice none 0 0] 26 (0, 0))) := (hB4.block w.heap.size (by omega)).trans hR3
    obtain ⟨⟨r0, r1, r2, r3⟩, f0, f1, f2, f3⟩ := cells4 HR4.out
    clear hB3 hR2 h2 hO2 hR3 h3 hB4
    go_wp2
    refine bodyPost_ret (results_24 rfl _ _ w.heap.size rfl (set4 HR4.out _ _ _ _)) rfl ?_
    refine ⟨.slice none 0 0, rfl, Ow.nil _ _, ?_, ?_⟩
    · exact Rr.set (Rr.set (Rr.set (Rr.set h4 hRl) hRl) hRl) hRl
    · exact grown_trans HG4.out (grownset4 (w3.alloc (.cells #[.int .i64 0, .int .i64 0, .int .i64 0, .slice none 0 0] 26)) w.heap.size _ _ _ _) (fun k e => .inr (by cases e; exact Nat.le_refl _))

end Go.Proofs.Ytfnnbfgfmbiabab
