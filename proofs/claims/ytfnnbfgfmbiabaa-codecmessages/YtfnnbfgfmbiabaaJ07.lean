/-
  Asked; Rwr; Cod; Chk.
-/
import Derived.Test.YtfnnbfgfmbiabaaJ06
import Derived.Test.YtfnnbfgfmbiabaaJ05
/-
  One call of a reader, held against the document's: true, and both stand in one state again.
-/
namespace Go.Proofs.Ytfnnbfgfmbiabaa
open Go.RowKit Go.Shelf

set_option maxRecDepth 100000 in
set_option maxHeartbeats 1000000 in
theorem qText_any (N Q : Nat) (v : Value) (l : List UInt8) (a e : Nat) (most : Int) (w : World) (h : Rrd N w Q v l a e) (hl : l.length ≤ 20000) (ha : a ≤ l.length) :
    Calls Try.prog 79 #[.pointer (some ⟨Q, 0, none⟩), .int .i64 most] w fun r w' =>
      r = .returned (.string ⟨(takeAt l a e most).1.toArray⟩) ∧ Rrd N w' Q v l (takeAt l a e most).2.1 (takeAt l a e most).2.2 ∧ w.grownBy w' (some Q) := by
  have hp := qBytes_any N Q v l a e most w h hl ha
  generalize takeAt l a e most = p at *
  obtain ⟨t, a', e'⟩ := p
  simp only at hp ⊢
  go_enter Try.func79, Try.ntmps79
  go_wp2_with (go_at_call 69; refine hp.mono ?_; rintro r w1 ⟨v1, rfl, hs1, h1, hg1⟩; have hcv := conv_sl hs1; obtain ⟨b, cap, rfl, -⟩ := id hs1)
  go_ret
  exact ⟨rfl, h1, hg1⟩

/-- A reader lies on, where another block is turned. -/
theorem Rdr.kept {N : Nat} {w w' : World} {R : Nat} {l : List UInt8} {a e k : Nat} (h : Rdr N w R l a e) (hg : w.grownBy w' (some k)) (hk : R < k ∨ ∃ cs t z, w.heap[k]? = some (.cells cs t z) ∧ t ≠ 5 ∧ t ≠ 152) : Rdr N w' R l a e := by
  have hlt := h.lt
  obtain ⟨hle, v, hR, hO, hvR⟩ := h
  have hne : k ≠ R := by
    rcases hk with hk | ⟨cs, t, z, h1, _, h3⟩
    · omega
    · intro e; subst e; rw [hR] at h1; simp at h1; exact h3 h1.2.1.symm
  refine ⟨hle, v, (hg.block R hlt (fun e => hne (by cases e; rfl))).trans hR, hO.kept hg (.inr ?_), hvR⟩
  rcases hk with hk | ⟨cs, t, z, h1, h2, _⟩
  · intro e; have := hvR k e; omega
  · exact hO.not_at h1 h2

theorem Rdr.at0 {N : Nat} {w : World} {R : Nat} {l : List UInt8} {a e : Nat} (h : Rdr N w R l a e) : ∃ cs z, w.heap[R]? = some (.cells cs 152 z) := by
  obtain ⟨_, v, hR, _⟩ := h; exact ⟨_, _, hR⟩

/-- Both readers in one state. -/
structure Both (N : Nat) (W : World) (R Q : Nat) (v : Value) (l : List UInt8) (a e : Nat) : Prop where
  r : Rdr N W R l a e
  q : Rrd N W Q v l a e
  le : a ≤ l.length

theorem takeAt_le (l : List UInt8) (a e : Nat) (most : Int) (ha : a ≤ l.length) : (takeAt l a e most).2.1 ≤ l.length := by
  have hb := pk_bd l a e
  unfold takeAt
  split
  · exact ha
  · split
    · exact ha
    · split
      · exact ha
      · have := hb.2.2.1 ha; simp only; omega

theorem boolAt_le (l : List UInt8) (a e : Nat) (ha : a ≤ l.length) : (boolAt l a e).2.1 ≤ l.length := by
  have hb := pk_bd l a e
  unfold boolAt
  split
  · exact ha
  · exact hb.2.2.1 ha

theorem Both.ne {N : Nat} {W : World} {R Q : Nat} {v : Value} {l : List UInt8} {a e a' e' : Nat} (h : Rdr N W R l a e) (hq : Rrd N W Q v l a' e') : R ≠ Q := by
  obtain ⟨cs, z, hR⟩ := h.at0
  intro e; subst e
  have := hq.at0
  rw [hR] at this; simp at this

/-- A call of the one, then of the other. -/
theorem Both.two {N : Nat} {w w1 w2 : World} {R Q : Nat} {v : Value} {l : List UInt8} {a e a' e' : Nat} (h : Both N w R Q v l a e) (h1 : Rdr N w1 R l a' e') (g1 : w.grownBy w1 (some R)) (h2 : Rrd N w2 Q v l a' e') (g2 : w1.grownBy w2 (some Q)) (ha : a' ≤ l.length) :
    Both N w2 R Q v l a' e' ∧ Below N w w2 := by
  have hq1 : Rrd N w1 Q v l a e := h.q.kept g1 (by simpa using Both.ne h.r h.q) (fun k e => by cases e; exact h.r.le)
  refine ⟨⟨h1.kept g2 (.inr ⟨_, _, _, hq1.at0, by decide, by decide⟩), h2, ha⟩, ?_⟩
  have hz := h.r.lt
  have hz' := h.r.le
  have hz1 := g1.size
  exact ((Below.refl N w).grown g1 (by omega) (fun k e => by cases e; exact h.r.le)).grown g2 (by omega) (fun k e => by cases e; exact h.q.le)

theorem Both.mid {N : Nat} {w w1 : World} {R Q : Nat} {v : Value} {l : List UInt8} {a e : Nat} (h : Both N w R Q v l a e) (g1 : w.grownBy w1 (some R)) : Rrd N w1 Q v l a e :=
  h.q.kept g1 (by simpa using Both.ne h.r h.q) (fun k e => by cases e; exact h.r.le)

theorem Both.alloc {N : Nat} {w : World} {R Q : Nat} {v : Value} {l : List UInt8} {a e : Nat} (h : Both N w R Q v l a e) (o : Obj) : Both N (w.alloc o) R Q v l a e := by
  have hb : Below w.heap.size w (w.alloc o) := (Below.refl _ w).alloc (Nat.le_refl _) o
  exact ⟨h.r.below hb (Nat.le_refl _), h.q.below hb (Nat.le_refl _), h.le⟩

theorem Both.drewN {N : Nat} {w : World} {R Q : Nat} {v : Value} {l : List UInt8} {a e : Nat} (h : Both N w R Q v l a e) (n : Nat) : Both N (w.drewN n) R Q v l a e := ⟨h.r.drewN n, h.q.drewN n, h.le⟩

/-- One byte of bytes of the call's own is written over. -/
theorem Ow.store {N : Nat} {w : World} {g cap : Nat} {l : List UInt8} (h : Ow N w (.slice (some ⟨g, 0, none⟩) l.length cap) l) (k : Nat) (x : UInt8) :
    Ow N (w.setCell ⟨g, k, none⟩ (encB x)) (.slice (some ⟨g, 0, none⟩) l.length cap) (l.set k x) := by
  rcases h.2 with ⟨h0, h1⟩ | ⟨g', cap', cur, hv, hg, hh, hc1, hc2, hc3, hc4⟩
  · cases h0
  · cases hv
    refine ⟨by simp, .inr ⟨g, cap, cur.set! k (encB x), by simp, hg, ?_, by simpa using hc1, hc2, by simpa using hc3, ?_⟩⟩
    · obtain ⟨hlt, he⟩ := Array.getElem?_eq_some_iff.1 hh
      show (w.heap.modify g _)[g]? = _
      rw [Array.getElem?_eq_getElem (by rw [Array.size_modify]; exact hlt), Array.getElem_modify_self, he]
      simp
    · simp only [Nat.mul_one, List.length_set] at hc4 ⊢
      rw [Array.set!_eq_setIfInBounds, Array.toList_setIfInBounds, List.take_set, hc4, List.map_set]

theorem Ow.can {N : Nat} {w : World} {g cap : Nat} {l : List UInt8} (h : Ow N w (.slice (some ⟨g, 0, none⟩) l.length cap) l) (k : Nat) (hk : k < l.length) : w.cell? ⟨g, k, none⟩ = some (encB (byteAt l k)) ∧ w.frozen? ⟨g, k, none⟩ = false ∧ N ≤ g := by
  obtain ⟨g', e, _, _, _, hc⟩ := h.at0 (by omega)
  cases e
  refine ⟨by have := hc k hk; rw [Nat.zero_add] at this; exact this, ?_, ?_⟩
  · rcases h.2 with ⟨h0, _⟩ | ⟨g', cap', cur, hv, hg, hh, _⟩
    · cases h0
    · cases hv; simp [World.frozen?, hh]
  · exact (World.ownsRow.lt h g rfl).1

theorem Both.set {N : Nat} {w : World} {R Q : Nat} {v : Value} {l : List UInt8} {a e : Nat} (h : Both N w R Q v l a e) (g k : Nat) (u : Value) (hR : R < g) (hQ : Q < g) : Both N (w.setCell ⟨g, k, none⟩ u) R Q v l a e :=
  ⟨h.r.kept (grown_set w g k u) (.inl hR), h.q.kept (grown_set w g k u) (by simp; omega) (fun k e => by cases e; have := h.q.le; omega), h.le⟩

end Go.Proofs.Ytfnnbfgfmbiabaa

/-
  The document's own writer: what each of its calls leaves.
-/
namespace Go.Proofs.Ytfnnbfgfmbiabaa
open Go.RowKit Go.Shelf

def putN (n : Int) : Nat := if isNumB n then 0 else 1
theorem putE_N (n : Int) : putE n = (putN n : Int) := by unfold putE putN; split <;> rfl

/-- What the document's writer has, and its error, behind a number. -/
def vInt (l : List UInt8) (e : Nat) (n : Int) : List UInt8 × Nat := if e ≠ 0 then (l, e) else (l ++ putB n, putN n)
def vBytes (l : List UInt8) (e : Nat) (m : List UInt8) (most : Int) : List UInt8 × Nat := if e ≠ 0 then (l, e) else if max most 0 < (m.length : Int) then (l, 3) else (l ++ numB m.length ++ m, 0)

set_option maxRecDepth 100000 in
set_option maxHeartbeats 1000000 in
theorem vvInt_any (N B : Nat) (v : Value) (l : List UInt8) (e : Nat) (n : Int) (w : World) (h : Wtr 115 N w B v l e) (hl : l.length ≤ 1073741824) :
    Calls Try.prog 58 #[.pointer (some ⟨B, 0, none⟩), .int .i64 n] w fun r w' => r = .returned (.tuple #[]) ∧ ∃ v', Wtr 115 N w' B v' (vInt l e n).1 (vInt l e n).2 ∧ Tn w w' B v ∧ Son w v v' := by
  obtain ⟨k0, k1, f0, f1⟩ := h.cells
  have hlt := h.lt
  have hle := h.le
  obtain ⟨b, c, hv, -, -⟩ := h.ow.shape
  unfold vInt
  by_cases he : e = 0
  · subst he
    rw [if_neg (by simp)]
    have hpl := putB_len n
    have hE := putE_N n
    subst hv
    go_enter Try.func58, Try.ntmps58
    go_wp2_with fail
    refine (refPut_any n _).mono ?_
    rintro r w1 ⟨p, rfl, hOp, hB1⟩
    rw [hE]
    have hz1 := hB1.size
    have h1 := h.below hB1 (Nat.le_refl _)
    have h2 := h1.err (by decide) (putN n)
    have hTs : Tn w (w1.setCell ⟨B, 1, none⟩ (.int .i64 (putN n : Int))) B (.slice b l.length c) := (Tn.of_below hB1).set 1 _
    have hpB : p.ownBlock ≠ some B := fun e => by have := (World.ownsRow.lt hOp B e).1; omega
    have hO2 : Ow w.heap.size (w1.setCell ⟨B, 1, none⟩ (.int .i64 (putN n : Int))) p (putB n) := hOp.kept (grown_set w1 B 1 _) (.inr hpB)
    obtain ⟨bp, cp, rfl, -, -⟩ := hOp.shape
    obtain ⟨q0, q1, e0, e1⟩ := h1.cells
    obtain ⟨W2, hW2⟩ : ∃ W2, w1.setCell ⟨B, 1, none⟩ (.int .i64 (putN n : Int)) = W2 := ⟨_, rfl⟩
    rw [hW2] at h2 hTs hO2
    obtain ⟨m0, m1, n0, n1⟩ := h2.cells
    have hz2 := hTs.size
    have hs2 := hO2.sl (Nat.le_refl W2.heap.size)
    clear hOp hB1 h1 hpB hO2 hE
    generalize (putN n : Int) = pe at *
    generalize hpb : putB n = pb at *
    go_wp2_with (at_builtin; refine wpList_append_ow rfl _ _ rfl N W2.heap.size _ _ l pb rfl h2.ow rfl hs2 (by omega) (by omega) ?_; intro v2 w2 hO2 hg2 hn2; obtain ⟨b2, c2, hv2, -, -⟩ := hO2.shape; rw [List.length_append] at hv2; subst hv2; have h3 := (hg2.block B h2.lt (fun e => h2.ow.not_at h2.at0 (by decide) e.symm)).trans h2.at0; have hf2 := frozen_at0 h3; have hc2 := cell_at0 h3)
    go_end0
    have hT2 : Tn W2 w2 B (.slice b l.length c) := Tn.of_grown hg2 (fun k e => .inr e)
    rw [hpb]
    refine ⟨rfl, _, Wtr.mk' (by decide) hle h3 hO2, (hTs.trans (Son.refl _ _) hT2).set 0 _, ?_⟩
    rcases hn2 with hn2 | hn2
    · exact .inr (.inl hn2)
    · exact .inr (.inr ⟨_, hn2, hz2⟩)
  · rw [if_pos he]
    have he' : ((e : Int) != 0) = true := by simp; omega
    go_enter Try.func58, Try.ntmps58
    go_wp2
    refine bodyPost_ret (results_none rfl _ _ _) rfl ?_
    exact ⟨rfl, v, h, Tn.refl _ _ _, Son.refl _ _⟩

set_option maxRecDepth 100000 in
set_option maxHeartbeats 1000000 in
theorem vvBool_any (N B : Nat) (v : Value) (l : List UInt8) (e : Nat) (t : Bool) (w : World) (h : Wtr 115 N w B v l e) (hl : l.length ≤ 1073741824) :
    Calls Try.prog 82 #[.pointer (some ⟨B, 0, none⟩), .bool t] w fun r w' => r = .returned (.tuple #[]) ∧ ∃ v', Wtr 115 N w' B v' (vInt l e (if t then 1 else 0)).1 (vInt l e (if t then 1 else 0)).2 ∧ Tn w w' B v ∧ Son w v v' := by
  cases t with
  | true =>
    simp only [if_true]
    go_enter Try.func82, Try.ntmps82
    go_wp2_with (go_at_call 58; refine (vvInt_any N B v l e 1 w h hl).mono ?_; rintro r w1 ⟨rfl, h1⟩)
    go_end0
    exact ⟨rfl, h1⟩
  | false =>
    simp only [Bool.false_eq_true, if_false]
    go_enter Try.func82, Try.ntmps82
    go_wp2_with (go_at_call 58; refine (vvInt_any N B v l e 0 w h hl).mono ?_; rintro r w1 ⟨rfl, h1⟩)
    go_end0
    exact ⟨rfl, h1⟩

theorem vInt_len (l : List UInt8) (n : Nat) (h : n ≤ 1073741824) : vInt l 0 (n : Int) = (l ++ numB n, 0) := by
  have hN : isNumB (n : Int) = true := by simp [isNumB]; omega
  simp [vInt, putB, putN, hN]

set_option maxRecDepth 100000 in
set_option maxHeartbeats 2000000 in
theorem vvBytes_any (N B M : Nat) (v x : Value) (l m : List UInt8) (e : Nat) (most : Int) (w : World) (h : Wtr 115 N w B v l e) (hl : l.length ≤ 1073740824) (hm : m.length ≤ 1073741824)
    (hx : Sl M w x m) (hM : M ≤ w.heap.size) (hxd : m ≠ [] → x.ownBlock ≠ some B ∧ ∀ k, x.ownBlock = some k → v.ownBlock ≠ some k) :
    Calls Try.prog 59 #[.pointer (some ⟨B, 0, none⟩), x, .int .i64 most] w fun r w' => r = .returned (.tuple #[]) ∧ ∃ v', Wtr 115 N w' B v' (vBytes l e m most).1 (vBytes l e m most).2 ∧ Tn w w' B v ∧ Son w v v' := by
  obtain ⟨k0, k1, f0, f1⟩ := h.cells
  have hlt := h.lt
  have hle := h.le
  obtain ⟨b, c, hv, -, -⟩ := h.ow.shape
  obtain ⟨bx, cx, hxx, -⟩ := id hx
  subst hxx
  unfold vBytes
  by_cases he : e = 0
  · subst he
    rw [if_neg (by simp)]
    have hcase : (most < 0 ∧ max most 0 = 0) ∨ (¬ most < 0 ∧ max most 0 = most) := by omega
    have hmost : ∃ mm : Int, max most 0 = mm ∧ ((most < 0 ∧ mm = 0) ∨ (¬ most < 0 ∧ mm = most)) := ⟨_, rfl, hcase⟩
    obtain ⟨mm, hmm, hcase'⟩ := hmost
    rw [hmm]
    by_cases hbig : mm < (m.length : Int)
    · rw [if_pos hbig]
      subst hv
      have HW : Hid (Wtr 115 N (w.setCell ⟨B, 1, none⟩ (.int .i64 3)) B (.slice b l.length c) l 3) := h.err (by decide) 3
      have HT : Hid (Tn w (w.setCell ⟨B, 1, none⟩ (.int .i64 3)) B (.slice b l.length c)) := (Tn.refl w B _).set 1 _
      clear hmm hcase
      rcases hcase' with ⟨hneg, rfl⟩ | ⟨hneg, rfl⟩
      all_goals
        go_enter Try.func59, Try.ntmps59
        go_wp2
        refine bodyPost_ret (results_none rfl _ _ _) rfl ?_
        exact ⟨rfl, _, HW.out, HT.out, Son.refl _ _⟩
    · rw [if_neg hbig]
      clear hmm hcase
      have hnb := num_len_le 9 m.length
      have hlen : (l ++ numB m.length).length = l.length + (numB m.length).length := List.length_append
      have cI := vvInt_any N B v l 0 (m.length : Int) w h (by omega)
      rw [vInt_len l m.length (by omega)] at cI
      simp only at cI
      rcases hcase' with ⟨hneg, rfl⟩ | ⟨hneg, rfl⟩
      all_goals
        go_enter Try.func59, Try.ntmps59
        go_wp2_with fail
        refine cI.mono ?_
        rintro r w1 ⟨rfl, v1, h1, hT1, hS1⟩
        have hx1 := hx.tn hM hT1 hxd
        obtain ⟨b1, c1, hv1, -, -⟩ := h1.ow.shape
        rw [hlen] at hv1
        subst hv1
        have hz1 := hT1.size
        obtain ⟨q0, q1, e0, e1⟩ := h1.cells
        clear k0 k1 f0 f1
        go_wp2_with (at_builtin; refine wpList_append_ow rfl _ _ rfl N M _ _ (l ++ numB m.length) m rfl h1.ow rfl hx1 (by rw [hlen]; unfold numB; omega) (by omega) ?_; intro v2 w2 hO2 hg2 hn2; obtain ⟨b2, c2, hv2, -, -⟩ := hO2.shape; rw [List.length_append, hlen] at hv2; subst hv2; have h2 := (hg2.block B h1.lt (fun e => h1.ow.not_at h1.at0 (by decide) e.symm)).trans h1.at0; have hf2 := frozen_at0 h2; have hc2 := cell_at0 h2)
        go_end0
        have hT2 : Tn w1 w2 B (.slice b1 (l.length + (numB m.length).length) c1) := Tn.of_grown hg2 (fun k e => .inr e)
        refine ⟨rfl, _, Wtr.mk' (e := 0) (by decide) hle h2 hO2, (hT1.trans hS1 hT2).set 0 _, hS1.trans hz1 ?_⟩
        rcases hn2 with hn2 | hn2
        · exact .inr (.inl hn2)
        · exact .inr (.inr ⟨_, hn2, Nat.le_refl _⟩)
  · rw [if_pos he]
    have he' : ((e : Int) != 0) = true := by simp; omega
    go_enter Try.func59, Try.ntmps59
    go_wp2
    refine bodyPost_ret (results_none rfl _ _ _) rfl ?_
    exact ⟨rfl, v, h, Tn.refl _ _ _, Son.refl _ _⟩

set_option maxRecDepth 100000 in
set_option maxHeartbeats 2000000 in
theorem vvText_any (N B : Nat) (v : Value) (l m : List UInt8) (e : Nat) (most : Int) (w : World) (h : Wtr 115 N w B v l e) (hl : l.length ≤ 1073740824) (hm : m.length ≤ 1073741824) :
    Calls Try.prog 76 #[.pointer (some ⟨B, 0, none⟩), .string ⟨m.toArray⟩, .int .i64 most] w fun r w' => r = .returned (.tuple #[]) ∧ ∃ v', Wtr 115 N w' B v' (vBytes l e m most).1 (vBytes l e m most).2 ∧ Tn w w' B v ∧ Son w v v' := by
  obtain ⟨cap, w1, hcv, hs1, hB1⟩ := conv_str w m hm
  have h1 := h.below hB1 (Nat.le_refl _)
  have hlt := h.lt
  have hvl : ∀ k, v.ownBlock = some k → k < w.heap.size := fun k hk => (World.ownsRow.lt h.ow k hk).2
  have hz := hB1.size
  have cW := vvBytes_any N B w1.heap.size v _ l m e most w1 h1 hl hm hs1 (Nat.le_refl _) (fun _ => ⟨by simp [Value.ownBlock]; omega, fun k hk hv => by simp [Value.ownBlock] at hk; have := hvl k hv; omega⟩)
  go_enter Try.func76, Try.ntmps76
  go_wp2_with (go_at_call 59; refine cW.mono ?_; rintro r w2 ⟨rfl, v2, hW2, hT2, hS2⟩)
  go_end0
  have hT1 : Tn w w1 B v := Tn.of_grown (row := none) ⟨hB1.os, hB1.tape, hB1.output, hB1.size, fun k hk _ => hB1.block k hk⟩ (by simp)
  exact ⟨rfl, v2, hW2, hT1.trans (Son.refl _ _) hT2, (Son.refl w v).trans hz hS2⟩

set_option maxRecDepth 100000 in
set_option maxHeartbeats 2000000 in
theorem vvDone_any (N B : Nat) (v : Value) (l : List UInt8) (e : Nat) (w : World) (h : Wtr 115 N w B v l e) :
    Calls Try.prog 60 #[.pointer (some ⟨B, 0, none⟩)] w fun r w' => ∃ u, r = .returned (.tuple #[u, .int .i64 (e : Int)]) ∧ Sl w'.heap.size w' u (if e = 0 then l else []) ∧ ∃ n, w' = w.drewN n := by
  obtain ⟨k0, k1, f0, f1⟩ := h.cells
  have hs := h.ow.sl (Nat.le_refl w.heap.size)
  obtain ⟨b, c, rfl, -, -⟩ := h.ow.shape
  by_cases he : e = 0
  · subst he
    rw [if_pos rfl]
    clear h
    go_enter Try.func60, Try.ntmps60
    go_wp2
    go_ret2
    exact ⟨_, rfl, hs, 0, rfl⟩
  · rw [if_neg he]
    have he' : ((e : Int) != 0) = true := by simp; omega
    clear h hs
    go_enter Try.func60, Try.ntmps60
    go_wp2
    go_region
    go_wp2
    go_ret2
    exact ⟨_, rfl, Sl.nil _ _, 1, rfl⟩
end Go.Proofs.Ytfnnbfgfmbiabaa

/-
  What may be, and the texts of the plain kinds: as plain mathematics.
-/
namespace Go.Proofs.Ytfnnbfgfmbiabaa
open Go.RowKit Go.Shelf

/-- Is a number from one to another? -/
def isIn (n a b : Int) : Bool := decide (a ≤ n) && decide (n ≤ b)

/-- What may be of a state. -/
def ckState (t v c : Int) : Nat :=
  if isIn t 0 4611686018427387904 = false then 1 else if isIn c 0 4611686018427387904 = false then 1 else if isIn v 0 7 = false then 1
  else if v ≠ 0 ∧ t = 0 then 4 else 0

/-- What may be of a snapshot, of an entry, of a reply, of a command. -/
def ckSnap (i t : Int) (n : Nat) : Nat :=
  if i = 0 ∧ t = 0 ∧ n = 0 then 0 else if isIn i 1 4611686018427387904 = false then 1 else if isIn t 1 4611686018427387904 = false then 1 else if (524288 : Int) < (n : Int) then 3 else 0
def ckEntry (t i k : Int) (n : Nat) : Nat :=
  if isIn t 1 4611686018427387904 = false then 1 else if isIn i 1 4611686018427387904 = false then 1 else if k ≠ 0 ∧ k ≠ 1 then 6 else if (4096 : Int) < (n : Int) then 3 else if k = 0 ∧ (0 : Int) < (n : Int) then 4 else 0
def ckReply (c : Int) (n : Nat) : Nat := if isIn c 1 10 = false then 6 else if (1024 : Int) < (n : Int) then 3 else 0
def ckCommand (o c s : Int) (k v d : List UInt8) : Nat :=
  if isIn o 2 4 = false then 6 else if isIn c 1 4611686018427387904 = false then 1 else if isIn s 1 4611686018427387904 = false then 1
  else if (64 : Int) < (k.length : Int) then 3 else if (1024 : Int) < (v.length : Int) then 3 else if (1024 : Int) < (d.length : Int) then 3
  else if k = [] then 4 else if v ≠ [] ∧ o = 3 then 4 else if d ≠ [] ∧ o ≠ 4 then 4 else 0

/-- A state's text. -/
def txState (t v c : Int) : List UInt8 := numB t.toNat ++ numB v.toNat ++ numB c.toNat

/-- A number is read: it, the place behind it, the error. -/
def rdN (l : List UInt8) (s : Nat × Nat) : Nat × (Nat × Nat) := ((pk l s.1 s.2).1, (s.1 + (pk l s.1 s.2).2.1, (pk l s.1 s.2).2.2))
/-- Bytes are read. -/
def rdB (l : List UInt8) (most : Int) (s : Nat × Nat) : List UInt8 × (Nat × Nat) := ((takeAt l s.1 s.2 most).1, ((takeAt l s.1 s.2 most).2.1, (takeAt l s.1 s.2 most).2.2))

theorem rdN_le (l : List UInt8) (s : Nat × Nat) (h : s.1 ≤ l.length) : (rdN l s).2.1 ≤ l.length := (pk_bd l s.1 s.2).2.2.1 h
theorem rdB_le (l : List UInt8) (most : Int) (s : Nat × Nat) (h : s.1 ≤ l.length) : (rdB l most s).2.1 ≤ l.length := takeAt_le l s.1 s.2 most h

theorem isIn_num (n a b : Int) (ha : 0 ≤ a) (hb : b ≤ 4611686018427387904) (h : isIn n a b = true) : isNumB n = true ∧ 0 ≤ n ∧ n ≤ b ∧ a ≤ n := by
  simp [isIn] at h
  refine ⟨by simp [isNumB]; omega, by omega, h.2, h.1⟩

theorem wInt_ok (l : List UInt8) (n : Int) (h : isNumB n = true) : wInt l 0 n = (l ++ numB n.toNat, 0) := by simp [wInt, h]
theorem vInt_ok (l : List UInt8) (n : Int) (h : isNumB n = true) : vInt l 0 n = (l ++ numB n.toNat, 0) := by simp [vInt, putB, putN, h]

theorem rdN_mid (pre : List UInt8) (n : Nat) (t : List UInt8) (h : n ≤ 4611686018427387904) : rdN (pre ++ (numB n ++ t)) (pre.length, 0) = (n, ((pre ++ numB n).length, 0)) := by
  unfold rdN; simp only; rw [pk_mid pre n t h]; simp
theorem rdB_mid (pre m t : List UInt8) (most : Int) (hm : m.length ≤ 1073741824) (hmost : (m.length : Int) ≤ most) : rdB (pre ++ (numB m.length ++ m ++ t)) most (pre.length, 0) = (m, ((pre ++ (numB m.length ++ m)).length, 0)) := by
  unfold rdB; simp only; rw [takeAt_mid pre m t most hm (by omega)]; simp; omega

/-- A state, read. -/
def rdState (l : List UInt8) : (Nat × Nat × Nat) × (Nat × Nat) :=
  ((( rdN l (0, 0)).1, (rdN l (rdN l (0, 0)).2).1, (rdN l (rdN l (rdN l (0, 0)).2).2).1), (rdN l (rdN l (rdN l (0, 0)).2).2).2)
/-- Get's error of a state, and the state. -/
def geState (l : List UInt8) : Nat :=
  if doneE l (rdState l).2.1 (rdState l).2.2 = 0 then ckState ((rdState l).1.1 : Int) ((rdState l).1.2.1 : Int) ((rdState l).1.2.2 : Int) else doneE l (rdState l).2.1 (rdState l).2.2
def goState (l : List UInt8) : Nat × Nat × Nat := if geState l = 0 then (rdState l).1 else (0, 0, 0)

theorem doneE_end (l : List UInt8) : doneE l l.length 0 = 0 := by simp [doneE]

theorem ckState_ok {t v c : Int} (h : ckState t v c = 0) : isIn t 0 4611686018427387904 = true ∧ isIn c 0 4611686018427387904 = true ∧ isIn v 0 7 = true := by
  unfold ckState at h
  cases h1 : isIn t 0 4611686018427387904 <;> cases h2 : isIn c 0 4611686018427387904 <;> cases h3 : isIn v 0 7 <;> simp [h1, h2, h3] at h ⊢

theorem rdState_tx (t v c : Nat) (ht : t ≤ 4611686018427387904) (hv : v ≤ 4611686018427387904) (hc : c ≤ 4611686018427387904) : rdState (numB t ++ numB v ++ numB c) = ((t, v, c), ((numB t ++ numB v ++ numB c).length, 0)) := by
  have h1 := rdN_mid [] t (numB v ++ numB c) ht
  have h2 := rdN_mid (numB t) v (numB c) hv
  have h3 := rdN_mid (numB t ++ numB v) c [] hc
  simp only [List.nil_append, List.append_nil, List.append_assoc, List.length_nil] at h1 h2 h3
  unfold rdState
  simp only [List.append_assoc]
  rw [h1]; simp only
  rw [h2]; simp only
  rw [h3]

theorem geState_tx {t v c : Int} (h : ckState t v c = 0) : geState (txState t v c) = 0 ∧ goState (txState t v c) = (t.toNat, v.toNat, c.toNat) := by
  obtain ⟨h1, h2, h3⟩ := ckState_ok h
  have i1 := isIn_num _ _ _ (by omega) (by omega) h1
  have i2 := isIn_num _ _ _ (by omega) (by omega) h2
  have i3 := isIn_num _ _ _ (by omega) (by omega) h3
  have hr := rdState_tx t.toNat v.toNat c.toNat (by omega) (by omega) (by omega)
  have e1 : ((t.toNat : Nat) : Int) = t := by omega
  have e2 : ((v.toNat : Nat) : Int) = v := by omega
  have e3 : ((c.toNat : Nat) : Int) = c := by omega
  have hg : geState (txState t v c) = 0 := by
    unfold geState txState
    rw [hr]; simp only; rw [if_pos (doneE_end _), e1, e2, e3, h]
  refine ⟨hg, ?_⟩
  unfold goState
  rw [if_pos hg]
  unfold txState
  rw [hr]
end Go.Proofs.Ytfnnbfgfmbiabaa

/-
  Checks of the plain kinds: the code's and the document's.
-/
namespace Go.Proofs.Ytfnnbfgfmbiabaa
open Go.RowKit Go.Shelf

set_option maxRecDepth 100000 in
set_option maxHeartbeats 400000 in
theorem within_any (n a b : Int) (w : World) : Calls Try.prog 61 #[.int .i64 n, .int .i64 a, .int .i64 b] w fun e w' => e = .returned (.bool (isIn n a b)) ∧ w' = w := by
  unfold isIn
  by_cases h : a ≤ n
  · have h' : decide (a ≤ n) = true := by simpa using h
    go_enter Try.func61, Try.ntmps61
    go_wp2
    go_ret
    exact ⟨by simp [h], rfl⟩
  · have h' : decide (a ≤ n) = false := by simpa using h
    go_enter Try.func61, Try.ntmps61
    go_wp2
    go_ret
    exact ⟨by simp, rfl⟩

set_option maxRecDepth 100000 in
set_option maxHeartbeats 400000 in
theorem refWithin_any (n a b : Int) (w : World) : Calls Try.prog 62 #[.int .i64 n, .int .i64 a, .int .i64 b] w fun e w' => e = .returned (.bool (isIn n a b)) ∧ w' = w := by
  unfold isIn
  by_cases h : a ≤ n
  · have h' : decide (a ≤ n) = true := by simpa using h
    go_enter Try.func62, Try.ntmps62
    go_wp2
    go_ret
    exact ⟨by simp [h], rfl⟩
  · have h' : decide (a ≤ n) = false := by simpa using h
    go_enter Try.func62, Try.ntmps62
    go_wp2
    go_ret
    exact ⟨by simp, rfl⟩

set_option maxRecDepth 100000 in
set_option maxHeartbeats 1000000 in
theorem ckState_any (t v c : Int) (w : World) : Calls Try.prog 23 #[.agg #[], .agg #[.int .i64 t, .int .i64 v, .int .i64 c]] w fun e w' => e = .returned (.int .i64 (ckState t v c : Int)) ∧ Below w.heap.size w w' := by
  have HB : Hid (∀ o0 o1, Below w.heap.size w ((w.alloc o0).alloc o1)) := fun _ _ => (((Below.refl _ w).alloc (by simp) _).alloc (by simp) _)
  go_enter Try.func23, Try.ntmps23
  go_wp2_with ((go_at_call 61; refine (within_any _ _ _ _).mono ?_; rintro e w' ⟨rfl, hw⟩; subst w'))
  all_goals
    go_ret
    refine ⟨?_, HB.out _ _⟩
    first
    | (simp_all [ckState]; done)
    | (simp_all [ckState]; split <;> omega)

set_option maxRecDepth 100000 in
set_option maxHeartbeats 1000000 in
theorem refCkState_any (t v c : Int) (w : World) : Calls Try.prog 24 #[.agg #[.int .i64 t, .int .i64 v, .int .i64 c]] w fun e w' => e = .returned (.int .i64 (ckState t v c : Int)) ∧ Below w.heap.size w w' := by
  have HB : Hid (∀ o0, Below w.heap.size w (w.alloc o0)) := fun _ => ((Below.refl _ w).alloc (by simp) _)
  go_enter Try.func24, Try.ntmps24
  go_wp2_with ((go_at_call 62; refine (refWithin_any _ _ _ _).mono ?_; rintro e w' ⟨rfl, hw⟩; subst w'))
  all_goals
    go_ret
    refine ⟨?_, HB.out _⟩
    first
    | (simp_all [ckState]; done)
    | (simp_all [ckState]; split <;> omega)

set_option maxRecDepth 100000 in
set_option maxHeartbeats 1000000 in
theorem ckReply_any (c : Int) (m : List UInt8) (w : World) : Calls Try.prog 42 #[.agg #[], .agg #[.int .i64 c, .string ⟨m.toArray⟩]] w fun e w' => e = .returned (.int .i64 (ckReply c m.length : Int)) ∧ Below w.heap.size w w' := by
  have HB : Hid (∀ o0 o1, Below w.heap.size w ((w.alloc o0).alloc o1)) := fun _ _ => (((Below.refl _ w).alloc (by simp) _).alloc (by simp) _)
  have hsm : (⟨m.toArray⟩ : ByteArray).size = m.length := by simp [ByteArray.size]
  go_enter Try.func42, Try.ntmps42
  go_wp2_with ((go_at_call 61; refine (within_any _ _ _ _).mono ?_; rintro e w' ⟨rfl, hw⟩; subst w'))
  all_goals
    go_ret
    refine ⟨?_, HB.out _ _⟩
    first
    | (simp_all [ckReply]; done)
    | (simp_all [ckReply]; split <;> omega)

set_option maxRecDepth 100000 in
set_option maxHeartbeats 1000000 in
theorem refCkReply_any (c : Int) (m : List UInt8) (w : World) : Calls Try.prog 43 #[.agg #[.int .i64 c, .string ⟨m.toArray⟩]] w fun e w' => e = .returned (.int .i64 (ckReply c m.length : Int)) ∧ Below w.heap.size w w' := by
  have HB : Hid (∀ o0, Below w.heap.size w (w.alloc o0)) := fun _ => ((Below.refl _ w).alloc (by simp) _)
  have hsm : (⟨m.toArray⟩ : ByteArray).size = m.length := by simp [ByteArray.size]
  go_enter Try.func43, Try.ntmps43
  go_wp2_with ((go_at_call 62; refine (refWithin_any _ _ _ _).mono ?_; rintro e w' ⟨rfl, hw⟩; subst w'))
  all_goals
    go_ret
    refine ⟨?_, HB.out _⟩
    first
    | (simp_all [ckReply]; done)
    | (simp_all [ckReply]; split <;> omega)

set_option maxRecDepth 100000 in
set_option maxHeartbeats 1000000 in
theorem ckEntry_any (t i k : Int) (a : Option Addr) (n cap : Nat) (w : World) : Calls Try.prog 14 #[.agg #[], .agg #[.int .i64 t, .int .i64 i, .int .i64 k, .slice a n cap]] w fun e w' => e = .returned (.int .i64 (ckEntry t i k n : Int)) ∧ Below w.heap.size w w' := by
  have HB : Hid (∀ o0 o1, Below w.heap.size w ((w.alloc o0).alloc o1)) := fun _ _ => (((Below.refl _ w).alloc (by simp) _).alloc (by simp) _)
  go_enter Try.func14, Try.ntmps14
  go_wp2_with ((go_at_call 61; refine (within_any _ _ _ _).mono ?_; rintro e w' ⟨rfl, hw⟩; subst w'))
  all_goals
    go_ret
    refine ⟨?_, HB.out _ _⟩
    first
    | (simp_all [ckEntry]; done)
    | (simp_all [ckEntry]; split <;> omega)

set_option maxRecDepth 100000 in
set_option maxHeartbeats 1000000 in
theorem refCkEntry_any (t i k : Int) (a : Option Addr) (n cap : Nat) (w : World) : Calls Try.prog 15 #[.agg #[.int .i64 t, .int .i64 i, .int .i64 k, .slice a n cap]] w fun e w' => e = .returned (.int .i64 (ckEntry t i k n : Int)) ∧ Below w.heap.size w w' := by
  have HB : Hid (∀ o0, Below w.heap.size w (w.alloc o0)) := fun _ => ((Below.refl _ w).alloc (by simp) _)
  go_enter Try.func15, Try.ntmps15
  go_wp2_with ((go_at_call 62; refine (refWithin_any _ _ _ _).mono ?_; rintro e w' ⟨rfl, hw⟩; subst w'))
  all_goals
    go_ret
    refine ⟨?_, HB.out _⟩
    first
    | (simp_all [ckEntry]; done)
    | (simp_all [ckEntry]; split <;> omega)

set_option maxRecDepth 100000 in
set_option maxHeartbeats 1000000 in
theorem ckSnap_any (i t : Int) (a : Option Addr) (n cap : Nat) (w : World) : Calls Try.prog 29 #[.agg #[], .agg #[.int .i64 i, .int .i64 t, .slice a n cap]] w fun e w' => e = .returned (.int .i64 (ckSnap i t n : Int)) ∧ Below w.heap.size w w' := by
  have HB : Hid (∀ o0 o1 o2, Below w.heap.size w (((w.alloc o0).alloc o1).alloc o2)) := fun _ _ _ => ((((Below.refl _ w).alloc (by simp) _).alloc (by simp) _).alloc (by simp; omega) _)
  go_enter Try.func29, Try.ntmps29
  go_wp2_with (first | (go_at_call 61; refine (within_any _ _ _ _).mono ?_; rintro e w' ⟨rfl, hw⟩; subst w') | go_in)
  all_goals
    go_ret
    refine ⟨?_, HB.out _ _ _⟩
    first
    | (simp_all [ckSnap]; done)
    | (simp_all [ckSnap]; split <;> omega)

set_option maxRecDepth 100000 in
set_option maxHeartbeats 1000000 in
theorem refCkSnap_any (i t : Int) (a : Option Addr) (n cap : Nat) (w : World) : Calls Try.prog 30 #[.agg #[.int .i64 i, .int .i64 t, .slice a n cap]] w fun e w' => e = .returned (.int .i64 (ckSnap i t n : Int)) ∧ Below w.heap.size w w' := by
  have HB : Hid (∀ o0 o1, Below w.heap.size w ((w.alloc o0).alloc o1)) := fun _ _ => (((Below.refl _ w).alloc (by simp) _).alloc (by simp) _)
  go_enter Try.func30, Try.ntmps30
  go_wp2_with (first | (go_at_call 62; refine (refWithin_any _ _ _ _).mono ?_; rintro e w' ⟨rfl, hw⟩; subst w') | go_in)
  all_goals
    go_ret
    refine ⟨?_, HB.out _ _⟩
    first
    | (simp_all [ckSnap]; done)
    | (simp_all [ckSnap]; split <;> omega)

end Go.Proofs.Ytfnnbfgfmbiabaa

