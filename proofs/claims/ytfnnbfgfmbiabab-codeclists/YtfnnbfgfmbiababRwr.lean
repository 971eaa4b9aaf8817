/-
  The document's own writer: what each of its calls leaves.
-/
import Derived.Test.YtfnnbfgfmbiababTold
namespace Go.Proofs.Ytfnnbfgfmbiabab
open Go.RowKit Go.Shelf

def putN (n : Int) : Nat := if isNumB n then 0 else 1
theorem putE_N (n : Int) : putE n = (putN n : Int) := by unfold putE putN; split <;> rfl

/-- What the document's writer has, and its error, behind a number. -/
def vInt (l : List UInt8) (e : Nat) (n : Int) : List UInt8 × Nat := if e ≠ 0 then (l, e) else (l ++ putB n, putN n)
def vBytes (l : List UInt8) (e : Nat) (m : List UInt8) (most : Int) : List UInt8 × Nat := if e ≠ 0 then (l, e) else if max most 0 < (m.length : Int) then (l, 3) else (l ++ numB m.length ++ m, 0)

set_option maxRecDepth 100000 in
set_option maxHeartbeats 1000000 in
theorem vvInt_any (N B : Nat) (v : Value) (l : List UInt8) (e : Nat) (n : Int) (w : World) (h : Wtr 86 N w B v l e) (hl : l.length ≤ 1073741824) :
    Calls Try.prog 36 #[.pointer (some ⟨B, 0, none⟩), .int .i64 n] w fun r w' => r = .returned (.tuple #[]) ∧ ∃ v', Wtr 86 N w' B v' (vInt l e n).1 (vInt l e n).2 ∧ Tn w w' B v ∧ Son w v v' := by
  obtain ⟨k0, k1, f0, f1⟩ := h.cells
  have hlt := h.lt
  have hle := h.le
  obtain ⟨b, c, hv, -, -⟩ := h.ow.shape
  unfold vInt
  by_cases he : e = 0
  · subst he
    rw [if_neg (by simp)]
    have hpl := putB_len n
    have hE := putE_N n
    subst hv
    go_enter Try.func36, Try.ntmps36
    go_wp2_with fail
    refine (refPut_any n _).mono ?_
    rintro r w1 ⟨p, rfl, hOp, hB1⟩
    rw [hE]
    have hz1 := hB1.size
    have h1 := h.below hB1 (Nat.le_refl _)
    have h2 := h1.err (by decide) (putN n)
    have hTs : Tn w (w1.setCell ⟨B, 1, none⟩ (.int .i64 (putN n : Int))) B (.slice b l.length c) := (Tn.of_below hB1).set 1 _
    have hpB : p.ownBlock ≠ some B := fun e => by have := (World.ownsRow.lt hOp B e).1; omega
    have hO2 : Ow w.heap.size (w1.setCell ⟨B, 1, none⟩ (.int .i64 (putN n : Int))) p (putB n) := hOp.kept (grown_set w1 B 1 _) (.inr hpB)
    obtain ⟨bp, cp, rfl, -, -⟩ := hOp.shape
    obtain ⟨q0, q1, e0, e1⟩ := h1.cells
    obtain ⟨W2, hW2⟩ : ∃ W2, w1.setCell ⟨B, 1, none⟩ (.int .i64 (putN n : Int)) = W2 := ⟨_, rfl⟩
    rw [hW2] at h2 hTs hO2
    obtain ⟨m0, m1, n0, n1⟩ := h2.cells
    have hz2 := hTs.size
    have hs2 := hO2.sl (Nat.le_refl W2.heap.size)
    clear hOp hB1 h1 hpB hO2 hE
    generalize (putN n : Int) = pe at *
    generalize hpb : putB n = pb at *
    go_wp2_with (at_builtin; refine wpList_append_ow rfl _ _ rfl N W2.heap.size _ _ l pb rfl h2.ow rfl hs2 (by omega) (by omega) ?_; intro v2 w2 hO2 hg2 hn2; obtain ⟨b2, c2, hv2, -, -⟩ := hO2.shape; rw [List.length_append] at hv2; subst hv2; have h3 := (hg2.block B h2.lt (fun e => h2.ow.not_at h2.at0 (by decide) e.symm)).trans h2.at0; have hf2 := frozen_at0 h3; have hc2 := cell_at0 h3)
    go_end0
    have hT2 : Tn W2 w2 B (.slice b l.length c) := Tn.of_grown hg2 (fun k e => .inr e)
    rw [hpb]
    refine ⟨rfl, _, Wtr.mk' (by decide) hle h3 hO2, (hTs.trans (Son.refl _ _) hT2).set 0 _, ?_⟩
    rcases hn2 with hn2 | hn2
    · exact .inr (.inl hn2)
    · exact .inr (.inr ⟨_, hn2, hz2⟩)
  · rw [if_pos he]
    have he' : ((e : Int) != 0) = true := by simp; omega
    go_enter Try.func36, Try.ntmps36
    go_wp2
    refine bodyPost_ret (results_none rfl _ _ _) rfl ?_
    exact ⟨rfl, v, h, Tn.refl _ _ _, Son.refl _ _⟩

theorem vInt_len (l : List UInt8) (n : Nat) (h : n ≤ 1073741824) : vInt l 0 (n : Int) = (l ++ numB n, 0) := by
  have hN : isNumB (n : Int) = true := by simp [isNumB]; omega
  simp [vInt, putB, putN, hN]

set_option maxRecDepth 100000 in
set_option maxHeartbeats 2000000 in
theorem vvBytes_any (N B M : Nat) (v x : Value) (l m : List UInt8) (e : Nat) (most : Int) (w : World) (h : Wtr 86 N w B v l e) (hl : l.length ≤ 1073740824) (hm : m.length ≤ 1073741824)
    (hx : Sl M w x m) (hM : M ≤ w.heap.size) (hxd : m ≠ [] → x.ownBlock ≠ some B ∧ ∀ k, x.ownBlock = some k → v.ownBlock ≠ some k) :
    Calls Try.prog 37 #[.pointer (some ⟨B, 0, none⟩), x, .int .i64 most] w fun r w' => r = .returned (.tuple #[]) ∧ ∃ v', Wtr 86 N w' B v' (vBytes l e m most).1 (vBytes l e m most).2 ∧ Tn w w' B v ∧ Son w v v' := by
  obtain ⟨k0, k1, f0, f1⟩ := h.cells
  have hlt := h.lt
  have hle := h.le
  obtain ⟨b, c, hv, -, -⟩ := h.ow.shape
  obtain ⟨bx, cx, hxx, -⟩ := id hx
  subst hxx
  unfold vBytes
  by_cases he : e = 0
  · subst he
    rw [if_neg (by simp)]
    have hcase : (most < 0 ∧ max most 0 = 0) ∨ (¬ most < 0 ∧ max most 0 = most) := by omega
    have hmost : ∃ mm : Int, max most 0 = mm ∧ ((most < 0 ∧ mm = 0) ∨ (¬ most < 0 ∧ mm = most)) := ⟨_, rfl, hcase⟩
    obtain ⟨mm, hmm, hcase'⟩ := hmost
    rw [hmm]
    by_cases hbig : mm < (m.length : Int)
    · rw [if_pos hbig]
      subst hv
      have HW : Hid (Wtr 86 N (w.setCell ⟨B, 1, none⟩ (.int .i64 3)) B (.slice b l.length c) l 3) := h.err (by decide) 3
      have HT : Hid (Tn w (w.setCell ⟨B, 1, none⟩ (.int .i64 3)) B (.slice b l.length c)) := (Tn.refl w B _).set 1 _
      clear hmm hcase
      rcases hcase' with ⟨hneg, rfl⟩ | ⟨hneg, rfl⟩
      all_goals
        go_enter Try.func37, Try.ntmps37
        go_wp2
        refine bodyPost_ret (results_none rfl _ _ _) rfl ?_
        exact ⟨rfl, _, HW.out, HT.out, Son.refl _ _⟩
    · rw [if_neg hbig]
      clear hmm hcase
      have hnb := num_len_le 9 m.length
      have hlen : (l ++ numB m.length).length = l.length + (numB m.length).length := List.length_append
      have cI := vvInt_any N B v l 0 (m.length : Int) w h (by omega)
      rw [vInt_len l m.length (by omega)] at cI
      simp only at cI
      rcases hcase' with ⟨hneg, rfl⟩ | ⟨hneg, rfl⟩
      all_goals
        go_enter Try.func37, Try.ntmps37
        go_wp2_with fail
        refine cI.mono ?_
        rintro r w1 ⟨rfl, v1, h1, hT1, hS1⟩
        have hx1 := hx.tn hM hT1 hxd
        obtain ⟨b1, c1, hv1, -, -⟩ := h1.ow.shape
        rw [hlen] at hv1
        subst hv1
        have hz1 := hT1.size
        obtain ⟨q0, q1, e0, e1⟩ := h1.cells
        clear k0 k1 f0 f1
        go_wp2_with (at_builtin; refine wpList_append_ow rfl _ _ rfl N M _ _ (l ++ numB m.length) m rfl h1.ow rfl hx1 (by rw [hlen]; unfold numB; omega) (by omega) ?_; intro v2 w2 hO2 hg2 hn2; obtain ⟨b2, c2, hv2, -, -⟩ := hO2.shape; rw [List.length_append, hlen] at hv2; subst hv2; have h2 := (hg2.block B h1.lt (fun e => h1.ow.not_at h1.at0 (by decide) e.symm)).trans h1.at0; have hf2 := frozen_at0 h2; have hc2 := cell_at0 h2)
        go_end0
        have hT2 : Tn w1 w2 B (.slice b1 (l.length + (numB m.length).length) c1) := Tn.of_grown hg2 (fun k e => .inr e)
        refine ⟨rfl, _, Wtr.mk' (e := 0) (by decide) hle h2 hO2, (hT1.trans hS1 hT2).set 0 _, hS1.trans hz1 ?_⟩
        rcases hn2 with hn2 | hn2
        · exact .inr (.inl hn2)
        · exact .inr (.inr ⟨_, hn2, Nat.le_refl _⟩)
  · rw [if_pos he]
    have he' : ((e : Int) != 0) = true := by simp; omega
    go_enter Try.func37, Try.ntmps37
    go_wp2
    refine bodyPost_ret (results_none rfl _ _ _) rfl ?_
    exact ⟨rfl, v, h, Tn.refl _ _ _, Son.refl _ _⟩

set_option maxRecDepth 100000 in
set_option maxHeartbeats 2000000 in
theorem vvDone_any (N B : Nat) (v : Value) (l : List UInt8) (e : Nat) (w : World) (h : Wtr 86 N w B v l e) :
    Calls Try.prog 38 #[.pointer (some ⟨B, 0, none⟩)] w fun r w' => ∃ u, r = .returned (.tuple #[u, .int .i64 (e : Int)]) ∧ Sl w'.heap.size w' u (if e = 0 then l else []) ∧ ∃ n, w' = w.drewN n := by
  obtain ⟨k0, k1, f0, f1⟩ := h.cells
  have hs := h.ow.sl (Nat.le_refl w.heap.size)
  obtain ⟨b, c, rfl, -, -⟩ := h.ow.shape
  by_cases he : e = 0
  · subst he
    rw [if_pos rfl]
    clear h
    go_enter Try.func38, Try.ntmps38
    go_wp2
    go_ret2
    exact ⟨_, rfl, hs, 0, rfl⟩
  · rw [if_neg he]
    have he' : ((e : Int) != 0) = true := by simp; omega
    clear h hs
    go_enter Try.func38, Try.ntmps38
    go_wp2
    go_region
    go_wp2
    go_ret2
    exact ⟨_, rfl, Sl.nil _ _, 1, rfl⟩
end Go.Proofs.Ytfnnbfgfmbiabab
