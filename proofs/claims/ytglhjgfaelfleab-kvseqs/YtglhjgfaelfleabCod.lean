/-
  What may be, and the texts of the plain kinds: as plain mathematics.
-/
import Derived.Test.YtglhjgfaelfleabTold
import Derived.Test.YtglhjgfaelfleabAsked
import Derived.Test.YtglhjgfaelfleabRwr
namespace Go.Proofs.Ytglhjgfaelfleab
open Go.RowKit Go.Shelf

/-- Is a number from one to another? -/
def isIn (n a b : Int) : Bool := decide (a ≤ n) && decide (n ≤ b)

/-- What may be of a state. -/
def ckState (t v c : Int) : Nat :=
  if isIn t 0 4611686018427387904 = false then 1 else if isIn c 0 4611686018427387904 = false then 1 else if isIn v 0 7 = false then 1
  else if v ≠ 0 ∧ t = 0 then 4 else 0

/-- What may be of a snapshot, of an entry, of a reply, of a command. -/
def ckSnap (i t : Int) (n : Nat) : Nat :=
  if i = 0 ∧ t = 0 ∧ n = 0 then 0 else if isIn i 1 4611686018427387904 = false then 1 else if isIn t 1 4611686018427387904 = false then 1 else if (524288 : Int) < (n : Int) then 3 else 0
def ckEntry (t i k : Int) (n : Nat) : Nat :=
  if isIn t 1 4611686018427387904 = false then 1 else if isIn i 1 4611686018427387904 = false then 1 else if k ≠ 0 ∧ k ≠ 1 then 6 else if (4096 : Int) < (n : Int) then 3 else if k = 0 ∧ (0 : Int) < (n : Int) then 4 else 0
def ckReply (c : Int) (n : Nat) : Nat := if isIn c 1 10 = false then 6 else if (1024 : Int) < (n : Int) then 3 else 0
def ckCommand (o c s : Int) (k v d : List UInt8) : Nat :=
  if isIn o 2 4 = false then 6 else if isIn c 1 4611686018427387904 = false then 1 else if isIn s 1 4611686018427387904 = false then 1
  else if (64 : Int) < (k.length : Int) then 3 else if (1024 : Int) < (v.length : Int) then 3 else if (1024 : Int) < (d.length : Int) then 3
  else if k = [] then 4 else if v ≠ [] ∧ o = 3 then 4 else if d ≠ [] ∧ o ≠ 4 then 4 else 0

/-- A state's text. -/
def txState (t v c : Int) : List UInt8 := numB t.toNat ++ numB v.toNat ++ numB c.toNat

/-- A number is read: it, the place behind it, the error. -/
def rdN (l : List UInt8) (s : Nat × Nat) : Nat × (Nat × Nat) := ((pk l s.1 s.2).1, (s.1 + (pk l s.1 s.2).2.1, (pk l s.1 s.2).2.2))
/-- Bytes are read. -/
def rdB (l : List UInt8) (most : Int) (s : Nat × Nat) : List UInt8 × (Nat × Nat) := ((takeAt l s.1 s.2 most).1, ((takeAt l s.1 s.2 most).2.1, (takeAt l s.1 s.2 most).2.2))

theorem rdN_le (l : List UInt8) (s : Nat × Nat) (h : s.1 ≤ l.length) : (rdN l s).2.1 ≤ l.length := (pk_bd l s.1 s.2).2.2.1 h
theorem rdB_le (l : List UInt8) (most : Int) (s : Nat × Nat) (h : s.1 ≤ l.length) : (rdB l most s).2.1 ≤ l.length := takeAt_le l s.1 s.2 most h

theorem isIn_num (n a b : Int) (ha : 0 ≤ a) (hb : b ≤ 4611686018427387904) (h : isIn n a b = true) : isNumB n = true ∧ 0 ≤ n ∧ n ≤ b ∧ a ≤ n := by
  simp [isIn] at h
  refine ⟨by simp [isNumB]; omega, by omega, h.2, h.1⟩

theorem wInt_ok (l : List UInt8) (n : Int) (h : isNumB n = true) : wInt l 0 n = (l ++ numB n.toNat, 0) := by simp [wInt, h]
theorem vInt_ok (l : List UInt8) (n : Int) (h : isNumB n = true) : vInt l 0 n = (l ++ numB n.toNat, 0) := by simp [vInt, putB, putN, h]

theorem rdN_mid (pre : List UInt8) (n : Nat) (t : List UInt8) (h : n ≤ 4611686018427387904) : rdN (pre ++ (numB n ++ t)) (pre.length, 0) = (n, ((pre ++ numB n).length, 0)) := by
  unfold rdN; simp only; rw [pk_mid pre n t h]; simp
theorem rdB_mid (pre m t : List UInt8) (most : Int) (hm : m.length ≤ 1073741824) (hmost : (m.length : Int) ≤ most) : rdB (pre ++ (numB m.length ++ m ++ t)) most (pre.length, 0) = (m, ((pre ++ (numB m.length ++ m)).length, 0)) := by
  unfold rdB; simp only; rw [takeAt_mid pre m t most hm (by omega)]; simp; omega

/-- A state, read. -/
def rdState (l : List UInt8) : (Nat × Nat × Nat) × (Nat × Nat) :=
  ((( rdN l (0, 0)).1, (rdN l (rdN l (0, 0)).2).1, (rdN l (rdN l (rdN l (0, 0)).2).2).1), (rdN l (rdN l (rdN l (0, 0)).2).2).2)
/-- Get's error of a state, and the state. -/
def geState (l : List UInt8) : Nat :=
  if doneE l (rdState l).2.1 (rdState l).2.2 = 0 then ckState ((rdState l).1.1 : Int) ((rdState l).1.2.1 : Int) ((rdState l).1.2.2 : Int) else doneE l (rdState l).2.1 (rdState l).2.2
def goState (l : List UInt8) : Nat × Nat × Nat := if geState l = 0 then (rdState l).1 else (0, 0, 0)

theorem doneE_end (l : List UInt8) : doneE l l.length 0 = 0 := by simp [doneE]

theorem ckState_ok {t v c : Int} (h : ckState t v c = 0) : isIn t 0 4611686018427387904 = true ∧ isIn c 0 4611686018427387904 = true ∧ isIn v 0 7 = true := by
  unfold ckState at h
  cases h1 : isIn t 0 4611686018427387904 <;> cases h2 : isIn c 0 4611686018427387904 <;> cases h3 : isIn v 0 7 <;> simp [h1, h2, h3] at h ⊢

theorem rdState_tx (t v c : Nat) (ht : t ≤ 4611686018427387904) (hv : v ≤ 4611686018427387904) (hc : c ≤ 4611686018427387904) : rdState (numB t ++ numB v ++ numB c) = ((t, v, c), ((numB t ++ numB v ++ numB c).length, 0)) := by
  have h1 := rdN_mid [] t (numB v ++ numB c) ht
  have h2 := rdN_mid (numB t) v (numB c) hv
  have h3 := rdN_mid (numB t ++ numB v) c [] hc
  simp only [List.nil_append, List.append_nil, List.append_assoc, List.length_nil] at h1 h2 h3
  unfold rdState
  simp only [List.append_assoc]
  rw [h1]; simp only
  rw [h2]; simp only
  rw [h3]

theorem geState_tx {t v c : Int} (h : ckState t v c = 0) : geState (txState t v c) = 0 ∧ goState (txState t v c) = (t.toNat, v.toNat, c.toNat) := by
  obtain ⟨h1, h2, h3⟩ := ckState_ok h
  have i1 := isIn_num _ _ _ (by omega) (by omega) h1
  have i2 := isIn_num _ _ _ (by omega) (by omega) h2
  have i3 := isIn_num _ _ _ (by omega) (by omega) h3
  have hr := rdState_tx t.toNat v.toNat c.toNat (by omega) (by omega) (by omega)
  have e1 : ((t.toNat : Nat) : Int) = t := by omega
  have e2 : ((v.toNat : Nat) : Int) = v := by omega
  have e3 : ((c.toNat : Nat) : Int) = c := by omega
  have hg : geState (txState t v c) = 0 := by
    unfold geState txState
    rw [hr]; simp only; rw [if_pos (doneE_end _), e1, e2, e3, h]
  refine ⟨hg, ?_⟩
  unfold goState
  rw [if_pos hg]
  unfold txState
  rw [hr]
end Go.Proofs.Ytglhjgfaelfleab
