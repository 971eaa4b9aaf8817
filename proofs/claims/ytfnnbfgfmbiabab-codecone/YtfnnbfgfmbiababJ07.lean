/-
  Asked; Cod; Plain; Chk.
-/
import Derived.Test.YtfnnbfgfmbiababJ06
import Derived.Test.YtfnnbfgfmbiababJ05
/-
  One call of a reader, held against the document's: true, and both stand in one state again.
-/
namespace Go.Proofs.Ytfnnbfgfmbiabab
open Go.RowKit Go.Shelf

/-- A reader lies on, where another block is turned. -/
theorem Rdr.kept {N : Nat} {w w' : World} {R : Nat} {l : List UInt8} {a e k : Nat} (h : Rdr N w R l a e) (hg : w.grownBy w' (some k)) (hk : R < k ∨ ∃ cs t z, w.heap[k]? = some (.cells cs t z) ∧ t ≠ 5 ∧ t ≠ 149) : Rdr N w' R l a e := by
  have hlt := h.lt
  obtain ⟨hle, v, hR, hO, hvR⟩ := h
  have hne : k ≠ R := by
    rcases hk with hk | ⟨cs, t, z, h1, _, h3⟩
    · omega
    · intro e; subst e; rw [hR] at h1; simp at h1; exact h3 h1.2.1.symm
  refine ⟨hle, v, (hg.block R hlt (fun e => hne (by cases e; rfl))).trans hR, hO.kept hg (.inr ?_), hvR⟩
  rcases hk with hk | ⟨cs, t, z, h1, h2, _⟩
  · intro e; have := hvR k e; omega
  · exact hO.not_at h1 h2

theorem Rdr.at0 {N : Nat} {w : World} {R : Nat} {l : List UInt8} {a e : Nat} (h : Rdr N w R l a e) : ∃ cs z, w.heap[R]? = some (.cells cs 149 z) := by
  obtain ⟨_, v, hR, _⟩ := h; exact ⟨_, _, hR⟩

/-- Both readers in one state. -/
structure Both (N : Nat) (W : World) (R Q : Nat) (v : Value) (l : List UInt8) (a e : Nat) : Prop where
  r : Rdr N W R l a e
  q : Rrd N W Q v l a e
  le : a ≤ l.length

theorem takeAt_le (l : List UInt8) (a e : Nat) (most : Int) (ha : a ≤ l.length) : (takeAt l a e most).2.1 ≤ l.length := by
  have hb := pk_bd l a e
  unfold takeAt
  split
  · exact ha
  · split
    · exact ha
    · split
      · exact ha
      · have := hb.2.2.1 ha; simp only; omega

theorem boolAt_le (l : List UInt8) (a e : Nat) (ha : a ≤ l.length) : (boolAt l a e).2.1 ≤ l.length := by
  have hb := pk_bd l a e
  unfold boolAt
  split
  · exact ha
  · exact hb.2.2.1 ha

theorem Both.ne {N : Nat} {W : World} {R Q : Nat} {v : Value} {l : List UInt8} {a e a' e' : Nat} (h : Rdr N W R l a e) (hq : Rrd N W Q v l a' e') : R ≠ Q := by
  obtain ⟨cs, z, hR⟩ := h.at0
  intro e; subst e
  have := hq.at0
  rw [hR] at this; simp at this

/-- A call of the one, then of the other. -/
theorem Both.two {N : Nat} {w w1 w2 : World} {R Q : Nat} {v : Value} {l : List UInt8} {a e a' e' : Nat} (h : Both N w R Q v l a e) (h1 : Rdr N w1 R l a' e') (g1 : w.grownBy w1 (some R)) (h2 : Rrd N w2 Q v l a' e') (g2 : w1.grownBy w2 (some Q)) (ha : a' ≤ l.length) :
    Both N w2 R Q v l a' e' ∧ Below N w w2 := by
  have hq1 : Rrd N w1 Q v l a e := h.q.kept g1 (by simpa using Both.ne h.r h.q) (fun k e => by cases e; exact h.r.le)
  refine ⟨⟨h1.kept g2 (.inr ⟨_, _, _, hq1.at0, by decide, by decide⟩), h2, ha⟩, ?_⟩
  have hz := h.r.lt
  have hz' := h.r.le
  have hz1 := g1.size
  exact ((Below.refl N w).grown g1 (by omega) (fun k e => by cases e; exact h.r.le)).grown g2 (by omega) (fun k e => by cases e; exact h.q.le)

theorem Both.mid {N : Nat} {w w1 : World} {R Q : Nat} {v : Value} {l : List UInt8} {a e : Nat} (h : Both N w R Q v l a e) (g1 : w.grownBy w1 (some R)) : Rrd N w1 Q v l a e :=
  h.q.kept g1 (by simpa using Both.ne h.r h.q) (fun k e => by cases e; exact h.r.le)

theorem Both.alloc {N : Nat} {w : World} {R Q : Nat} {v : Value} {l : List UInt8} {a e : Nat} (h : Both N w R Q v l a e) (o : Obj) : Both N (w.alloc o) R Q v l a e := by
  have hb : Below w.heap.size w (w.alloc o) := (Below.refl _ w).alloc (Nat.le_refl _) o
  exact ⟨h.r.below hb (Nat.le_refl _), h.q.below hb (Nat.le_refl _), h.le⟩

theorem Both.drewN {N : Nat} {w : World} {R Q : Nat} {v : Value} {l : List UInt8} {a e : Nat} (h : Both N w R Q v l a e) (n : Nat) : Both N (w.drewN n) R Q v l a e := ⟨h.r.drewN n, h.q.drewN n, h.le⟩

/-- One byte of bytes of the call's own is written over. -/
theorem Ow.store {N : Nat} {w : World} {g cap : Nat} {l : List UInt8} (h : Ow N w (.slice (some ⟨g, 0, none⟩) l.length cap) l) (k : Nat) (x : UInt8) :
    Ow N (w.setCell ⟨g, k, none⟩ (encB x)) (.slice (some ⟨g, 0, none⟩) l.length cap) (l.set k x) := by
  rcases h.2 with ⟨h0, h1⟩ | ⟨g', cap', cur, hv, hg, hh, hc1, hc2, hc3, hc4⟩
  · cases h0
  · cases hv
    refine ⟨by simp, .inr ⟨g, cap, cur.set! k (encB x), by simp, hg, ?_, by simpa using hc1, hc2, by simpa using hc3, ?_⟩⟩
    · obtain ⟨hlt, he⟩ := Array.getElem?_eq_some_iff.1 hh
      show (w.heap.modify g _)[g]? = _
      rw [Array.getElem?_eq_getElem (by rw [Array.size_modify]; exact hlt), Array.getElem_modify_self, he]
      simp
    · simp only [Nat.mul_one, List.length_set] at hc4 ⊢
      rw [Array.set!_eq_setIfInBounds, Array.toList_setIfInBounds, List.take_set, hc4, List.map_set]

theorem Ow.can {N : Nat} {w : World} {g cap : Nat} {l : List UInt8} (h : Ow N w (.slice (some ⟨g, 0, none⟩) l.length cap) l) (k : Nat) (hk : k < l.length) : w.cell? ⟨g, k, none⟩ = some (encB (byteAt l k)) ∧ w.frozen? ⟨g, k, none⟩ = false ∧ N ≤ g := by
  obtain ⟨g', e, _, _, _, hc⟩ := h.at0 (by omega)
  cases e
  refine ⟨by have := hc k hk; rw [Nat.zero_add] at this; exact this, ?_, ?_⟩
  · rcases h.2 with ⟨h0, _⟩ | ⟨g', cap', cur, hv, hg, hh, _⟩
    · cases h0
    · cases hv; simp [World.frozen?, hh]
  · exact (World.ownsRow.lt h g rfl).1

theorem Both.set {N : Nat} {w : World} {R Q : Nat} {v : Value} {l : List UInt8} {a e : Nat} (h : Both N w R Q v l a e) (g k : Nat) (u : Value) (hR : R < g) (hQ : Q < g) : Both N (w.setCell ⟨g, k, none⟩ u) R Q v l a e :=
  ⟨h.r.kept (grown_set w g k u) (.inl hR), h.q.kept (grown_set w g k u) (by simp; omega) (fun k e => by cases e; have := h.q.le; omega), h.le⟩

end Go.Proofs.Ytfnnbfgfmbiabab

/-
  What may be, and the texts of the plain kinds: as plain mathematics.
-/
namespace Go.Proofs.Ytfnnbfgfmbiabab
open Go.RowKit Go.Shelf

/-- Is a number from one to another? -/
def isIn (n a b : Int) : Bool := decide (a ≤ n) && decide (n ≤ b)

/-- What may be of a state. -/
def ckState (t v c : Int) : Nat :=
  if isIn t 0 4611686018427387904 = false then 1 else if isIn c 0 4611686018427387904 = false then 1 else if isIn v 0 7 = false then 1
  else if v ≠ 0 ∧ t = 0 then 4 else 0

/-- What may be of a snapshot, of an entry, of a reply, of a command. -/
def ckSnap (i t : Int) (n : Nat) : Nat :=
  if i = 0 ∧ t = 0 ∧ n = 0 then 0 else if isIn i 1 4611686018427387904 = false then 1 else if isIn t 1 4611686018427387904 = false then 1 else if (524288 : Int) < (n : Int) then 3 else 0
def ckEntry (t i k : Int) (n : Nat) : Nat :=
  if isIn t 1 4611686018427387904 = false then 1 else if isIn i 1 4611686018427387904 = false then 1 else if k ≠ 0 ∧ k ≠ 1 then 6 else if (4096 : Int) < (n : Int) then 3 else if k = 0 ∧ (0 : Int) < (n : Int) then 4 else 0
def ckReply (c : Int) (n : Nat) : Nat := if isIn c 1 10 = false then 6 else if (1024 : Int) < (n : Int) then 3 else 0
def ckCommand (o c s : Int) (k v d : List UInt8) : Nat :=
  if isIn o 2 4 = false then 6 else if isIn c 1 4611686018427387904 = false then 1 else if isIn s 1 4611686018427387904 = false then 1
  else if (64 : Int) < (k.length : Int) then 3 else if (1024 : Int) < (v.length : Int) then 3 else if (1024 : Int) < (d.length : Int) then 3
  else if k = [] then 4 else if v ≠ [] ∧ o = 3 then 4 else if d ≠ [] ∧ o ≠ 4 then 4 else 0

/-- A state's text. -/
def txState (t v c : Int) : List UInt8 := numB t.toNat ++ numB v.toNat ++ numB c.toNat

/-- A number is read: it, the place behind it, the error. -/
def rdN (l : List UInt8) (s : Nat × Nat) : Nat × (Nat × Nat) := ((pk l s.1 s.2).1, (s.1 + (pk l s.1 s.2).2.1, (pk l s.1 s.2).2.2))
/-- Bytes are read. -/
def rdB (l : List UInt8) (most : Int) (s : Nat × Nat) : List UInt8 × (Nat × Nat) := ((takeAt l s.1 s.2 most).1, ((takeAt l s.1 s.2 most).2.1, (takeAt l s.1 s.2 most).2.2))

theorem rdN_le (l : List UInt8) (s : Nat × Nat) (h : s.1 ≤ l.length) : (rdN l s).2.1 ≤ l.length := (pk_bd l s.1 s.2).2.2.1 h
theorem rdB_le (l : List UInt8) (most : Int) (s : Nat × Nat) (h : s.1 ≤ l.length) : (rdB l most s).2.1 ≤ l.length := takeAt_le l s.1 s.2 most h

theorem isIn_num (n a b : Int) (ha : 0 ≤ a) (hb : b ≤ 4611686018427387904) (h : isIn n a b = true) : isNumB n = true ∧ 0 ≤ n ∧ n ≤ b ∧ a ≤ n := by
  simp [isIn] at h
  refine ⟨by simp [isNumB]; omega, by omega, h.2, h.1⟩

theorem wInt_ok (l : List UInt8) (n : Int) (h : isNumB n = true) : wInt l 0 n = (l ++ numB n.toNat, 0) := by simp [wInt, h]
theorem vInt_ok (l : List UInt8) (n : Int) (h : isNumB n = true) : vInt l 0 n = (l ++ numB n.toNat, 0) := by simp [vInt, putB, putN, h]

theorem rdN_mid (pre : List UInt8) (n : Nat) (t : List UInt8) (h : n ≤ 4611686018427387904) : rdN (pre ++ (numB n ++ t)) (pre.length, 0) = (n, ((pre ++ numB n).length, 0)) := by
  unfold rdN; simp only; rw [pk_mid pre n t h]; simp
theorem rdB_mid (pre m t : List UInt8) (most : Int) (hm : m.length ≤ 1073741824) (hmost : (m.length : Int) ≤ most) : rdB (pre ++ (numB m.length ++ m ++ t)) most (pre.length, 0) = (m, ((pre ++ (numB m.length ++ m)).length, 0)) := by
  unfold rdB; simp only; rw [takeAt_mid pre m t most hm (by omega)]; simp; omega

/-- A state, read. -/
def rdState (l : List UInt8) : (Nat × Nat × Nat) × (Nat × Nat) :=
  ((( rdN l (0, 0)).1, (rdN l (rdN l (0, 0)).2).1, (rdN l (rdN l (rdN l (0, 0)).2).2).1), (rdN l (rdN l (rdN l (0, 0)).2).2).2)
/-- Get's error of a state, and the state. -/
def geState (l : List UInt8) : Nat :=
  if doneE l (rdState l).2.1 (rdState l).2.2 = 0 then ckState ((rdState l).1.1 : Int) ((rdState l).1.2.1 : Int) ((rdState l).1.2.2 : Int) else doneE l (rdState l).2.1 (rdState l).2.2
def goState (l : List UInt8) : Nat × Nat × Nat := if geState l = 0 then (rdState l).1 else (0, 0, 0)

theorem doneE_end (l : List UInt8) : doneE l l.length 0 = 0 := by simp [doneE]

theorem ckState_ok {t v c : Int} (h : ckState t v c = 0) : isIn t 0 4611686018427387904 = true ∧ isIn c 0 4611686018427387904 = true ∧ isIn v 0 7 = true := by
  unfold ckState at h
  cases h1 : isIn t 0 4611686018427387904 <;> cases h2 : isIn c 0 4611686018427387904 <;> cases h3 : isIn v 0 7 <;> simp [h1, h2, h3] at h ⊢

theorem rdState_tx (t v c : Nat) (ht : t ≤ 4611686018427387904) (hv : v ≤ 4611686018427387904) (hc : c ≤ 4611686018427387904) : rdState (numB t ++ numB v ++ numB c) = ((t, v, c), ((numB t ++ numB v ++ numB c).length, 0)) := by
  have h1 := rdN_mid [] t (numB v ++ numB c) ht
  have h2 := rdN_mid (numB t) v (numB c) hv
  have h3 := rdN_mid (numB t ++ numB v) c [] hc
  simp only [List.nil_append, List.append_nil, List.append_assoc, List.length_nil] at h1 h2 h3
  unfold rdState
  simp only [List.append_assoc]
  rw [h1]; simp only
  rw [h2]; simp only
  rw [h3]

theorem geState_tx {t v c : Int} (h : ckState t v c = 0) : geState (txState t v c) = 0 ∧ goState (txState t v c) = (t.toNat, v.toNat, c.toNat) := by
  obtain ⟨h1, h2, h3⟩ := ckState_ok h
  have i1 := isIn_num _ _ _ (by omega) (by omega) h1
  have i2 := isIn_num _ _ _ (by omega) (by omega) h2
  have i3 := isIn_num _ _ _ (by omega) (by omega) h3
  have hr := rdState_tx t.toNat v.toNat c.toNat (by omega) (by omega) (by omega)
  have e1 : ((t.toNat : Nat) : Int) = t := by omega
  have e2 : ((v.toNat : Nat) : Int) = v := by omega
  have e3 : ((c.toNat : Nat) : Int) = c := by omega
  have hg : geState (txState t v c) = 0 := by
    unfold geState txState
    rw [hr]; simp only; rw [if_pos (doneE_end _), e1, e2, e3, h]
  refine ⟨hg, ?_⟩
  unfold goState
  rw [if_pos hg]
  unfold txState
  rw [hr]
end Go.Proofs.Ytfnnbfgfmbiabab

/-
  The plain kinds: their texts, read and written, as plain mathematics.
-/
namespace Go.Proofs.Ytfnnbfgfmbiabab
open Go.RowKit Go.Shelf

theorem numB_len (n : Nat) : (numB n).length ≤ 10 := num_len_le 9 n
theorem ckState_nums {t v c : Int} (h : ckState t v c = 0) : isNumB t = true ∧ isNumB v = true ∧ isNumB c = true := by
  obtain ⟨h1, h2, h3⟩ := ckState_ok h
  exact ⟨(isIn_num _ _ _ (by omega) (by omega) h1).1, (isIn_num _ _ _ (by omega) (by omega) h3).1, (isIn_num _ _ _ (by omega) (by omega) h2).1⟩
theorem txState_len (t v c : Int) : (txState t v c).length ≤ 30 := by
  have hbt := numB_len t.toNat
  have hbv := numB_len v.toNat
  have hbc := numB_len c.toNat
  simp [txState]; omega

def txReply (c : Int) (m : List UInt8) : List UInt8 := numB c.toNat ++ (numB m.length ++ m)
def rdReply (l : List UInt8) : (Nat × List UInt8) × (Nat × Nat) := (((rdN l (0, 0)).1, (rdB l 1024 (rdN l (0, 0)).2).1), (rdB l 1024 (rdN l (0, 0)).2).2)
def geReply (l : List UInt8) : Nat := if doneE l (rdReply l).2.1 (rdReply l).2.2 = 0 then ckReply ((rdReply l).1.1 : Int) ((rdReply l).1.2).length else doneE l (rdReply l).2.1 (rdReply l).2.2
def goReply (l : List UInt8) : Nat × List UInt8 := if geReply l = 0 then (rdReply l).1 else (0, [])
theorem ckReply_ok {c : Int} {n : Nat} (h : ckReply c n = 0) : isNumB c = true ∧ (n : Int) ≤ 1024 := by
  unfold ckReply at h
  cases h1 : isIn c 1 10 <;> simp only [h1, if_true, if_false, Bool.true_eq_false] at h <;> try (simp at h; done)
  refine ⟨(isIn_num _ _ _ (by omega) (by omega) h1).1, ?_⟩
  by_cases hn : (1024 : Int) < (n : Int)
  · rw [if_pos hn] at h; simp at h
  · omega
theorem rdReply_tx (c : Nat) (m : List UInt8) (hc : c ≤ 4611686018427387904) (hm : (m.length : Int) ≤ 1024) : rdReply (numB c ++ (numB m.length ++ m)) = ((c, m), ((numB c ++ (numB m.length ++ m)).length, 0)) := by
  have e0 := rdN_mid ([]) c ((numB m.length ++ m)) hc
  have e1 := rdB_mid (numB c) m ([]) 1024 (by omega) hm
  simp only [List.nil_append, List.append_nil, List.length_nil] at e0 e1
  unfold rdReply
  rw [e0]; simp only
  rw [e1]

theorem geReply_tx {c : Int} {m : List UInt8} (h : ckReply c m.length = 0) : geReply (txReply c m) = 0 ∧ goReply (txReply c m) = (c.toNat, m) := by
  obtain ⟨kc, km⟩ := ckReply_ok h
  have rc : 0 ≤ c ∧ c ≤ 4611686018427387904 := by simpa [isNumB] using kc
  have cc : ((c.toNat : Nat) : Int) = c := by omega
  have hr := rdReply_tx c.toNat m (by omega) km
  have hg : geReply (txReply c m) = 0 := by
    unfold geReply txReply
    rw [hr]; simp only; rw [if_pos (doneE_end _), cc, h]
  refine ⟨hg, ?_⟩
  unfold goReply
  rw [if_pos hg]
  unfold txReply
  rw [hr]
theorem txReply_len (c : Int) (m : List UInt8) : (txReply c m).length ≤ 20 + m.length := by
  have hbc := numB_len c.toNat
  have hbm := numB_len m.length
  simp [txReply]; omega

def txSnap (i t : Int) (m : List UInt8) : List UInt8 := numB i.toNat ++ numB t.toNat ++ (numB m.length ++ m)
def rdSnap (l : List UInt8) : (Nat × Nat × List UInt8) × (Nat × Nat) := (((rdN l (0, 0)).1, (rdN l (rdN l (0, 0)).2).1, (rdB l 524288 (rdN l (rdN l (0, 0)).2).2).1), (rdB l 524288 (rdN l (rdN l (0, 0)).2).2).2)
def geSnap (l : List UInt8) : Nat := if doneE l (rdSnap l).2.1 (rdSnap l).2.2 = 0 then ckSnap ((rdSnap l).1.1 : Int) ((rdSnap l).1.2.1 : Int) ((rdSnap l).1.2.2).length else doneE l (rdSnap l).2.1 (rdSnap l).2.2
def goSnap (l : List UInt8) : Nat × Nat × List UInt8 := if geSnap l = 0 then (rdSnap l).1 else (0, 0, [])
theorem ckSnap_ok {i t : Int} {n : Nat} (h : ckSnap i t n = 0) : isNumB i = true ∧ isNumB t = true ∧ (n : Int) ≤ 524288 := by
  unfold ckSnap at h
  by_cases h0 : i = 0 ∧ t = 0 ∧ n = 0
  · obtain ⟨rfl, rfl, rfl⟩ := h0; decide
  · rw [if_neg h0] at h
    cases h1 : isIn i 1 4611686018427387904 <;> cases h2 : isIn t 1 4611686018427387904 <;> simp [h1, h2] at h
    exact ⟨(isIn_num _ _ _ (by omega) (by omega) h1).1, (isIn_num _ _ _ (by omega) (by omega) h2).1, h⟩
theorem rdSnap_tx (i t : Nat) (m : List UInt8) (hi : i ≤ 4611686018427387904) (ht : t ≤ 4611686018427387904) (hm : (m.length : Int) ≤ 524288) : rdSnap (numB i ++ numB t ++ (numB m.length ++ m)) = ((i, t, m), ((numB i ++ numB t ++ (numB m.length ++ m)).length, 0)) := by
  have e0 := rdN_mid ([]) i (numB t ++ (numB m.length ++ m)) hi
  have e1 := rdN_mid (numB i) t ((numB m.length ++ m)) ht
  have e2 := rdB_mid (numB i ++ numB t) m ([]) 524288 (by omega) hm
  simp only [List.nil_append, List.append_nil, List.append_assoc, List.length_nil] at e0 e1 e2
  unfold rdSnap
  simp only [List.append_assoc]
  rw [e0]; simp only
  rw [e1]; simp only
  rw [e2]

theorem geSnap_tx {i t : Int} {m : List UInt8} (h : ckSnap i t m.length = 0) : geSnap (txSnap i t m) = 0 ∧ goSnap (txSnap i t m) = (i.toNat, t.toNat, m) := by
  obtain ⟨ki, kt, km⟩ := ckSnap_ok h
  have ri : 0 ≤ i ∧ i ≤ 4611686018427387904 := by simpa [isNumB] using ki
  have ci : ((i.toNat : Nat) : Int) = i := by omega
  have rt : 0 ≤ t ∧ t ≤ 4611686018427387904 := by simpa [isNumB] using kt
  have ct : ((t.toNat : Nat) : Int) = t := by omega
  have hr := rdSnap_tx i.toNat t.toNat m (by omega) (by omega) km
  have hg : geSnap (txSnap i t m) = 0 := by
    unfold geSnap txSnap
    rw [hr]; simp only; rw [if_pos (doneE_end _), ci, ct, h]
  refine ⟨hg, ?_⟩
  unfold goSnap
  rw [if_pos hg]
  unfold txSnap
  rw [hr]
theorem txSnap_len (i t : Int) (m : List UInt8) : (txSnap i t m).length ≤ 30 + m.length := by
  have hbi := numB_len i.toNat
  have hbt := numB_len t.toNat
  have hbm := numB_len m.length
  simp [txSnap]; omega

def txEntry (t i k : Int) (m : List UInt8) : List UInt8 := numB t.toNat ++ numB i.toNat ++ numB k.toNat ++ (numB m.length ++ m)
def rdEntry (l : List UInt8) : (Nat × Nat × Nat × List UInt8) × (Nat × Nat) := (((rdN l (0, 0)).1, (rdN l (rdN l (0, 0)).2).1, (rdN l (rdN l (rdN l (0, 0)).2).2).1, (rdB l 4096 (rdN l (rdN l (rdN l (0, 0)).2).2).2).1), (rdB l 4096 (rdN l (rdN l (rdN l (0, 0)).2).2).2).2)
def geEntry (l : List UInt8) : Nat := if doneE l (rdEntry l).2.1 (rdEntry l).2.2 = 0 then ckEntry ((rdEntry l).1.1 : Int) ((rdEntry l).1.2.1 : Int) ((rdEntry l).1.2.2.1 : Int) ((rdEntry l).1.2.2.2).length else doneE l (rdEntry l).2.1 (rdEntry l).2.2
def goEntry (l : List UInt8) : Nat × Nat × Nat × List UInt8 := if geEntry l = 0 then (rdEntry l).1 else (0, 0, 0, [])
theorem ckEntry_ok {t i k : Int} {n : Nat} (h : ckEntry t i k n = 0) : isNumB t = true ∧ isNumB i = true ∧ isNumB k = true ∧ (n : Int) ≤ 4096 := by
  unfold ckEntry at h
  cases h1 : isIn t 1 4611686018427387904 <;> cases h2 : isIn i 1 4611686018427387904 <;> simp only [h1, h2, if_true, if_false, Bool.true_eq_false] at h <;> try (simp at h; done)
  refine ⟨(isIn_num _ _ _ (by omega) (by omega) h1).1, (isIn_num _ _ _ (by omega) (by omega) h2).1, ?_⟩
  by_cases hk : k ≠ 0 ∧ k ≠ 1
  · rw [if_pos hk] at h; simp at h
  · rw [if_neg hk] at h
    by_cases hn : (4096 : Int) < (n : Int)
    · rw [if_pos hn] at h; simp at h
    · exact ⟨by simp [isNumB]; omega, by omega⟩
theorem rdEntry_tx (t i k : Nat) (m : List UInt8) (ht : t ≤ 4611686018427387904) (hi : i ≤ 4611686018427387904) (hk : k ≤ 4611686018427387904) (hm : (m.length : Int) ≤ 4096) : rdEntry (numB t ++ numB i ++ numB k ++ (numB m.length ++ m)) = ((t, i, k, m), ((numB t ++ numB i ++ numB k ++ (numB m.length ++ m)).length, 0)) := by
  have e0 := rdN_mid ([]) t (numB i ++ numB k ++ (numB m.length ++ m)) ht
  have e1 := rdN_mid (numB t) i (numB k ++ (numB m.length ++ m)) hi
  have e2 := rdN_mid (numB t ++ numB i) k ((numB m.length ++ m)) hk
  have e3 := rdB_mid (numB t ++ numB i ++ numB k) m ([]) 4096 (by omega) hm
  simp only [List.nil_append, List.append_nil, List.append_assoc, List.length_nil] at e0 e1 e2 e3
  unfold rdEntry
  simp only [List.append_assoc]
  rw [e0]; simp only
  rw [e1]; simp only
  rw [e2]; simp only
  rw [e3]

theorem geEntry_tx {t i k : Int} {m : List UInt8} (h : ckEntry t i k m.length = 0) : geEntry (txEntry t i k m) = 0 ∧ goEntry (txEntry t i k m) = (t.toNat, i.toNat, k.toNat, m) := by
  obtain ⟨kt, ki, kk, km⟩ := ckEntry_ok h
  have rt : 0 ≤ t ∧ t ≤ 4611686018427387904 := by simpa [isNumB] using kt
  have ct : ((t.toNat : Nat) : Int) = t := by omega
  have ri : 0 ≤ i ∧ i ≤ 4611686018427387904 := by simpa [isNumB] using ki
  have ci : ((i.toNat : Nat) : Int) = i := by omega
  have rk : 0 ≤ k ∧ k ≤ 4611686018427387904 := by simpa [isNumB] using kk
  have ck : ((k.toNat : Nat) : Int) = k := by omega
  have hr := rdEntry_tx t.toNat i.toNat k.toNat m (by omega) (by omega) (by omega) km
  have hg : geEntry (txEntry t i k m) = 0 := by
    unfold geEntry txEntry
    rw [hr]; simp only; rw [if_pos (doneE_end _), ct, ci, ck, h]
  refine ⟨hg, ?_⟩
  unfold goEntry
  rw [if_pos hg]
  unfold txEntry
  rw [hr]
theorem txEntry_len (t i k : Int) (m : List UInt8) : (txEntry t i k m).length ≤ 40 + m.length := by
  have hbt := numB_len t.toNat
  have hbi := numB_len i.toNat
  have hbk := numB_len k.toNat
  have hbm := numB_len m.length
  simp [txEntry]; omega

def txCommand (o c s : Int) (k v d : List UInt8) : List UInt8 := numB o.toNat ++ numB c.toNat ++ numB s.toNat ++ (numB k.length ++ k) ++ (numB v.length ++ v) ++ (numB d.length ++ d)
def rdCommand (l : List UInt8) : (Nat × Nat × Nat × List UInt8 × List UInt8 × List UInt8) × (Nat × Nat) := (((rdN l (0, 0)).1, (rdN l (rdN l (0, 0)).2).1, (rdN l (rdN l (rdN l (0, 0)).2).2).1, (rdB l 64 (rdN l (rdN l (rdN l (0, 0)).2).2).2).1, (rdB l 1024 (rdB l 64 (rdN l (rdN l (rdN l (0, 0)).2).2).2).2).1, (rdB l 1024 (rdB l 1024 (rdB l 64 (rdN l (rdN l (rdN l (0, 0)).2).2).2).2).2).1), (rdB l 1024 (rdB l 1024 (rdB l 64 (rdN l (rdN l (rdN l (0, 0)).2).2).2).2).2).2)
def geCommand (l : List UInt8) : Nat := if doneE l (rdCommand l).2.1 (rdCommand l).2.2 = 0 then ckCommand ((rdCommand l).1.1 : Int) ((rdCommand l).1.2.1 : Int) ((rdCommand l).1.2.2.1 : Int) (rdCommand l).1.2.2.2.1 (rdCommand l).1.2.2.2.2.1 (rdCommand l).1.2.2.2.2.2 else doneE l (rdCommand l).2.1 (rdCommand l).2.2
def goCommand (l : List UInt8) : Nat × Nat × Nat × List UInt8 × List UInt8 × List UInt8 := if geCommand l = 0 then (rdCommand l).1 else (0, 0, 0, [], [], [])
theorem ckCommand_ok {o c s : Int} {k v d : List UInt8} (h : ckCommand o c s k v d = 0) : isNumB o = true ∧ isNumB c = true ∧ isNumB s = true ∧ (k.length : Int) ≤ 64 ∧ (v.length : Int) ≤ 1024 ∧ (d.length : Int) ≤ 1024 := by
  unfold ckCommand at h
  cases h1 : isIn o 2 4 <;> cases h2 : isIn c 1 4611686018427387904 <;> cases h3 : isIn s 1 4611686018427387904 <;> simp only [h1, h2, h3, if_true, if_false, Bool.true_eq_false] at h <;> try (simp at h; done)
  refine ⟨(isIn_num _ _ _ (by omega) (by omega) h1).1, (isIn_num _ _ _ (by omega) (by omega) h2).1, (isIn_num _ _ _ (by omega) (by omega) h3).1, ?_⟩
  by_cases e1 : (64 : Int) < (k.length : Int)
  · rw [if_pos e1] at h; simp at h
  · rw [if_neg e1] at h
    by_cases e2 : (1024 : Int) < (v.length : Int)
    · rw [if_pos e2] at h; simp at h
    · rw [if_neg e2] at h
      by_cases e3 : (1024 : Int) < (d.length : Int)
      · rw [if_pos e3] at h; simp at h
      · exact ⟨by omega, by omega, by omega⟩
theorem rdCommand_tx (o c s : Nat) (k v d : List UInt8) (ho : o ≤ 4611686018427387904) (hc : c ≤ 4611686018427387904) (hs : s ≤ 4611686018427387904) (hk : (k.length : Int) ≤ 64) (hv : (v.length : Int) ≤ 1024) (hd : (d.length : Int) ≤ 1024) : rdCommand (numB o ++ numB c ++ numB s ++ (numB k.length ++ k) ++ (numB v.length ++ v) ++ (numB d.length ++ d)) = ((o, c, s, k, v, d), ((numB o ++ numB c ++ numB s ++ (numB k.length ++ k) ++ (numB v.length ++ v) ++ (numB d.length ++ d)).length, 0)) := by
  have e0 := rdN_mid ([]) o (numB c ++ numB s ++ (numB k.length ++ k) ++ (numB v.length ++ v) ++ (numB d.length ++ d)) ho
  have e1 := rdN_mid (numB o) c (numB s ++ (numB k.length ++ k) ++ (numB v.length ++ v) ++ (numB d.length ++ d)) hc
  have e2 := rdN_mid (numB o ++ numB c) s ((numB k.length ++ k) ++ (numB v.length ++ v) ++ (numB d.length ++ d)) hs
  have e3 := rdB_mid (numB o ++ numB c ++ numB s) k ((numB v.length ++ v) ++ (numB d.length ++ d)) 64 (by omega) hk
  have e4 := rdB_mid (numB o ++ numB c ++ numB s ++ (numB k.length ++ k)) v ((numB d.length ++ d)) 1024 (by omega) hv
  have e5 := rdB_mid (numB o ++ numB c ++ numB s ++ (numB k.length ++ k) ++ (numB v.length ++ v)) d ([]) 1024 (by omega) hd
  simp only [List.nil_append, List.append_nil, List.append_assoc, List.length_nil] at e0 e1 e2 e3 e4 e5
  unfold rdCommand
  simp only [List.append_assoc]
  rw [e0]; simp only
  rw [e1]; simp only
  rw [e2]; simp only
  rw [e3]; simp only
  rw [e4]; simp only
  rw [e5]

theorem geCommand_tx {o c s : Int} {k v d : List UInt8} (h : ckCommand o c s k v d = 0) : geCommand (txCommand o c s k v d) = 0 ∧ goCommand (txCommand o c s k v d) = (o.toNat, c.toNat, s.toNat, k, v, d) := by
  obtain ⟨ko, kc, ks, kk, kv, kd⟩ := ckCommand_ok h
  have ro : 0 ≤ o ∧ o ≤ 4611686018427387904 := by simpa [isNumB] using ko
  have co : ((o.toNat : Nat) : Int) = o := by omega
  have rc : 0 ≤ c ∧ c ≤ 4611686018427387904 := by simpa [isNumB] using kc
  have cc : ((c.toNat : Nat) : Int) = c := by omega
  have rs : 0 ≤ s ∧ s ≤ 4611686018427387904 := by simpa [isNumB] using ks
  have cs : ((s.toNat : Nat) : Int) = s := by omega
  have hr := rdCommand_tx o.toNat c.toNat s.toNat k v d (by omega) (by omega) (by omega) kk kv kd
  have hg : geCommand (txCommand o c s k v d) = 0 := by
    unfold geCommand txCommand
    rw [hr]; simp only; rw [if_pos (doneE_end _), co, cc, cs, h]
  refine ⟨hg, ?_⟩
  unfold goCommand
  rw [if_pos hg]
  unfold txCommand
  rw [hr]
theorem txCommand_len (o c s : Int) (k v d : List UInt8) : (txCommand o c s k v d).length ≤ 60 + k.length + v.length + d.length := by
  have hbo := numB_len o.toNat
  have hbc := numB_len c.toNat
  have hbs := numB_len s.toNat
  have hbk := numB_len k.length
  have hbv := numB_len v.length
  have hbd := numB_len d.length
  simp [txCommand]; omega
end Go.Proofs.Ytfnnbfgfmbiabab

/-
  Checks of the plain kinds: the code's and the document's.
-/
namespace Go.Proofs.Ytfnnbfgfmbiabab
open Go.RowKit Go.Shelf

set_option maxRecDepth 100000 in
set_option maxHeartbeats 400000 in
theorem within_any (n a b : Int) (w : World) : Calls Try.prog 75 #[.int .i64 n, .int .i64 a, .int .i64 b] w fun e w' => e = .returned (.bool (isIn n a b)) ∧ w' = w := by
  unfold isIn
  by_cases h : a ≤ n
  · have h' : decide (a ≤ n) = true := by simpa using h
    go_enter Try.func75, Try.ntmps75
    go_wp2
    go_ret
    exact ⟨by simp [h], rfl⟩
  · have h' : decide (a ≤ n) = false := by simpa using h
    go_enter Try.func75, Try.ntmps75
    go_wp2
    go_ret
    exact ⟨by simp, rfl⟩

set_option maxRecDepth 100000 in
set_option maxHeartbeats 400000 in
theorem refWithin_any (n a b : Int) (w : World) : Calls Try.prog 44 #[.int .i64 n, .int .i64 a, .int .i64 b] w fun e w' => e = .returned (.bool (isIn n a b)) ∧ w' = w := by
  unfold isIn
  by_cases h : a ≤ n
  · have h' : decide (a ≤ n) = true := by simpa using h
    go_enter Try.func44, Try.ntmps44
    go_wp2
    go_ret
    exact ⟨by simp [h], rfl⟩
  · have h' : decide (a ≤ n) = false := by simpa using h
    go_enter Try.func44, Try.ntmps44
    go_wp2
    go_ret
    exact ⟨by simp, rfl⟩

set_option maxRecDepth 100000 in
set_option maxHeartbeats 1000000 in
theorem ckState_any (t v c : Int) (w : World) : Calls Try.prog 31 #[.agg #[], .agg #[.int .i64 t, .int .i64 v, .int .i64 c]] w fun e w' => e = .returned (.int .i64 (ckState t v c : Int)) ∧ Below w.heap.size w w' := by
  have HB : Hid (∀ o0 o1, Below w.heap.size w ((w.alloc o0).alloc o1)) := fun _ _ => (((Below.refl _ w).alloc (by simp) _).alloc (by simp) _)
  go_enter Try.func31, Try.ntmps31
  go_wp2_with ((go_at_call 75; refine (within_any _ _ _ _).mono ?_; rintro e w' ⟨rfl, hw⟩; subst w'))
  all_goals
    go_ret
    refine ⟨?_, HB.out _ _⟩
    first
    | (simp_all [ckState]; done)
    | (simp_all [ckState]; split <;> omega)

set_option maxRecDepth 100000 in
set_option maxHeartbeats 1000000 in
theorem refCkState_any (t v c : Int) (w : World) : Calls Try.prog 16 #[.agg #[.int .i64 t, .int .i64 v, .int .i64 c]] w fun e w' => e = .returned (.int .i64 (ckState t v c : Int)) ∧ Below w.heap.size w w' := by
  have HB : Hid (∀ o0, Below w.heap.size w (w.alloc o0)) := fun _ => ((Below.refl _ w).alloc (by simp) _)
  go_enter Try.func16, Try.ntmps16
  go_wp2_with ((go_at_call 44; refine (refWithin_any _ _ _ _).mono ?_; rintro e w' ⟨rfl, hw⟩; subst w'))
  all_goals
    go_ret
    refine ⟨?_, HB.out _⟩
    first
    | (simp_all [ckState]; done)
    | (simp_all [ckState]; split <;> omega)

set_option maxRecDepth 100000 in
set_option maxHeartbeats 1000000 in
theorem ckEntry_any (t i k : Int) (a : Option Addr) (n cap : Nat) (w : World) : Calls Try.prog 73 #[.agg #[], .agg #[.int .i64 t, .int .i64 i, .int .i64 k, .slice a n cap]] w fun e w' => e = .returned (.int .i64 (ckEntry t i k n : Int)) ∧ Below w.heap.size w w' := by
  have HB : Hid (∀ o0 o1, Below w.heap.size w ((w.alloc o0).alloc o1)) := fun _ _ => (((Below.refl _ w).alloc (by simp) _).alloc (by simp) _)
  go_enter Try.func73, Try.ntmps73
  go_wp2_with ((go_at_call 75; refine (within_any _ _ _ _).mono ?_; rintro e w' ⟨rfl, hw⟩; subst w'))
  all_goals
    go_ret
    refine ⟨?_, HB.out _ _⟩
    first
    | (simp_all [ckEntry]; done)
    | (simp_all [ckEntry]; split <;> omega)

set_option maxRecDepth 100000 in
set_option maxHeartbeats 1000000 in
theorem refCkEntry_any (t i k : Int) (a : Option Addr) (n cap : Nat) (w : World) : Calls Try.prog 78 #[.agg #[.int .i64 t, .int .i64 i, .int .i64 k, .slice a n cap]] w fun e w' => e = .returned (.int .i64 (ckEntry t i k n : Int)) ∧ Below w.heap.size w w' := by
  have HB : Hid (∀ o0, Below w.heap.size w (w.alloc o0)) := fun _ => ((Below.refl _ w).alloc (by simp) _)
  go_enter Try.func78, Try.ntmps78
  go_wp2_with ((go_at_call 44; refine (refWithin_any _ _ _ _).mono ?_; rintro e w' ⟨rfl, hw⟩; subst w'))
  all_goals
    go_ret
    refine ⟨?_, HB.out _⟩
    first
    | (simp_all [ckEntry]; done)
    | (simp_all [ckEntry]; split <;> omega)

set_option maxRecDepth 100000 in
set_option maxHeartbeats 1000000 in
theorem ckSnap_any (i t : Int) (a : Option Addr) (n cap : Nat) (w : World) : Calls Try.prog 93 #[.agg #[], .agg #[.int .i64 i, .int .i64 t, .slice a n cap]] w fun e w' => e = .returned (.int .i64 (ckSnap i t n : Int)) ∧ Below w.heap.size w w' := by
  have HB : Hid (∀ o0 o1 o2, Below w.heap.size w (((w.alloc o0).alloc o1).alloc o2)) := fun _ _ _ => ((((Below.refl _ w).alloc (by simp) _).alloc (by simp) _).alloc (by simp; omega) _)
  go_enter Try.func93, Try.ntmps93
  go_wp2_with (first | (go_at_call 75; refine (within_any _ _ _ _).mono ?_; rintro e w' ⟨rfl, hw⟩; subst w') | go_in)
  all_goals
    go_ret
    refine ⟨?_, HB.out _ _ _⟩
    first
    | (simp_all [ckSnap]; done)
    | (simp_all [ckSnap]; split <;> omega)

set_option maxRecDepth 100000 in
set_option maxHeartbeats 1000000 in
theorem refCkSnap_any (i t : Int) (a : Option Addr) (n cap : Nat) (w : World) : Calls Try.prog 49 #[.agg #[.int .i64 i, .int .i64 t, .slice a n cap]] w fun e w' => e = .returned (.int .i64 (ckSnap i t n : Int)) ∧ Below w.heap.size w w' := by
  have HB : Hid (∀ o0 o1, Below w.heap.size w ((w.alloc o0).alloc o1)) := fun _ _ => (((Below.refl _ w).alloc (by simp) _).alloc (by simp) _)
  go_enter Try.func49, Try.ntmps49
  go_wp2_with (first | (go_at_call 44; refine (refWithin_any _ _ _ _).mono ?_; rintro e w' ⟨rfl, hw⟩; subst w') | go_in)
  all_goals
    go_ret
    refine ⟨?_, HB.out _ _⟩
    first
    | (simp_all [ckSnap]; done)
    | (simp_all [ckSnap]; split <;> omega)

end Go.Proofs.Ytfnnbfgfmbiabab

