/-
  The plain kinds: their texts, read and written, as plain mathematics.
-/
import Derived.Test.YtfnnbfgfmbiababCod
namespace Go.Proofs.Ytfnnbfgfmbiabab
open Go.RowKit Go.Shelf

theorem numB_len (n : Nat) : (numB n).length ≤ 10 := num_len_le 9 n
theorem ckState_nums {t v c : Int} (h : ckState t v c = 0) : isNumB t = true ∧ isNumB v = true ∧ isNumB c = true := by
  obtain ⟨h1, h2, h3⟩ := ckState_ok h
  exact ⟨(isIn_num _ _ _ (by omega) (by omega) h1).1, (isIn_num _ _ _ (by omega) (by omega) h3).1, (isIn_num _ _ _ (by omega) (by omega) h2).1⟩
theorem txState_len (t v c : Int) : (txState t v c).length ≤ 30 := by
  have hbt := numB_len t.toNat
  have hbv := numB_len v.toNat
  have hbc := numB_len c.toNat
  simp [txState]; omega

def txReply (c : Int) (m : List UInt8) : List UInt8 := numB c.toNat ++ (numB m.length ++ m)
def rdReply (l : List UInt8) : (Nat × List UInt8) × (Nat × Nat) := (((rdN l (0, 0)).1, (rdB l 1024 (rdN l (0, 0)).2).1), (rdB l 1024 (rdN l (0, 0)).2).2)
def geReply (l : List UInt8) : Nat := if doneE l (rdReply l).2.1 (rdReply l).2.2 = 0 then ckReply ((rdReply l).1.1 : Int) ((rdReply l).1.2).length else doneE l (rdReply l).2.1 (rdReply l).2.2
def goReply (l : List UInt8) : Nat × List UInt8 := if geReply l = 0 then (rdReply l).1 else (0, [])
theorem ckReply_ok {c : Int} {n : Nat} (h : ckReply c n = 0) : isNumB c = true ∧ (n : Int) ≤ 1024 := by
  unfold ckReply at h
  cases h1 : isIn c 1 10 <;> simp only [h1, if_true, if_false, Bool.true_eq_false] at h <;> try (simp at h; done)
  refine ⟨(isIn_num _ _ _ (by omega) (by omega) h1).1, ?_⟩
  by_cases hn : (1024 : Int) < (n : Int)
  · rw [if_pos hn] at h; simp at h
  · omega
theorem rdReply_tx (c : Nat) (m : List UInt8) (hc : c ≤ 4611686018427387904) (hm : (m.length : Int) ≤ 1024) : rdReply (numB c ++ (numB m.length ++ m)) = ((c, m), ((numB c ++ (numB m.length ++ m)).length, 0)) := by
  have e0 := rdN_mid ([]) c ((numB m.length ++ m)) hc
  have e1 := rdB_mid (numB c) m ([]) 1024 (by omega) hm
  simp only [List.nil_append, List.append_nil, List.length_nil] at e0 e1
  unfold rdReply
  rw [e0]; simp only
  rw [e1]

theorem geReply_tx {c : Int} {m : List UInt8} (h : ckReply c m.length = 0) : geReply (txReply c m) = 0 ∧ goReply (txReply c m) = (c.toNat, m) := by
  obtain ⟨kc, km⟩ := ckReply_ok h
  have rc : 0 ≤ c ∧ c ≤ 4611686018427387904 := by simpa [isNumB] using kc
  have cc : ((c.toNat : Nat) : Int) = c := by omega
  have hr := rdReply_tx c.toNat m (by omega) km
  have hg : geReply (txReply c m) = 0 := by
    unfold geReply txReply
    rw [hr]; simp only; rw [if_pos (doneE_end _), cc, h]
  refine ⟨hg, ?_⟩
  unfold goReply
  rw [if_pos hg]
  unfold txReply
  rw [hr]
theorem txReply_len (c : Int) (m : List UInt8) : (txReply c m).length ≤ 20 + m.length := by
  have hbc := numB_len c.toNat
  have hbm := numB_len m.length
  simp [txReply]; omega

def txSnap (i t : Int) (m : List UInt8) : List UInt8 := numB i.toNat ++ numB t.toNat ++ (numB m.length ++ m)
def rdSnap (l : List UInt8) : (Nat × Nat × List UInt8) × (Nat × Nat) := (((rdN l (0, 0)).1, (rdN l (rdN l (0, 0)).2).1, (rdB l 524288 (rdN l (rdN l (0, 0)).2).2).1), (rdB l 524288 (rdN l (rdN l (0, 0)).2).2).2)
def geSnap (l : List UInt8) : Nat := if doneE l (rdSnap l).2.1 (rdSnap l).2.2 = 0 then ckSnap ((rdSnap l).1.1 : Int) ((rdSnap l).1.2.1 : Int) ((rdSnap l).1.2.2).length else doneE l (rdSnap l).2.1 (rdSnap l).2.2
def goSnap (l : List UInt8) : Nat × Nat × List UInt8 := if geSnap l = 0 then (rdSnap l).1 else (0, 0, [])
theorem ckSnap_ok {i t : Int} {n : Nat} (h : ckSnap i t n = 0) : isNumB i = true ∧ isNumB t = true ∧ (n : Int) ≤ 524288 := by
  unfold ckSnap at h
  by_cases h0 : i = 0 ∧ t = 0 ∧ n = 0
  · obtain ⟨rfl, rfl, rfl⟩ := h0; decide
  · rw [if_neg h0] at h
    cases h1 : isIn i 1 4611686018427387904 <;> cases h2 : isIn t 1 4611686018427387904 <;> simp [h1, h2] at h
    exact ⟨(isIn_num _ _ _ (by omega) (by omega) h1).1, (isIn_num _ _ _ (by omega) (by omega) h2).1, h⟩
theorem rdSnap_tx (i t : Nat) (m : List UInt8) (hi : i ≤ 4611686018427387904) (ht : t ≤ 4611686018427387904) (hm : (m.length : Int) ≤ 524288) : rdSnap (numB i ++ numB t ++ (numB m.length ++ m)) = ((i, t, m), ((numB i ++ numB t ++ (numB m.length ++ m)).length, 0)) := by
  have e0 := rdN_mid ([]) i (numB t ++ (numB m.length ++ m)) hi
  have e1 := rdN_mid (numB i) t ((numB m.length ++ m)) ht
  have e2 := rdB_mid (numB i ++ numB t) m ([]) 524288 (by omega) hm
  simp only [List.nil_append, List.append_nil, List.append_assoc, List.length_nil] at e0 e1 e2
  unfold rdSnap
  simp only [List.append_assoc]
  rw [e0]; simp only
  rw [e1]; simp only
  rw [e2]

theorem geSnap_tx {i t : Int} {m : List UInt8} (h : ckSnap i t m.length = 0) : geSnap (txSnap i t m) = 0 ∧ goSnap (txSnap i t m) = (i.toNat, t.toNat, m) := by
  obtain ⟨ki, kt, km⟩ := ckSnap_ok h
  have ri : 0 ≤ i ∧ i ≤ 4611686018427387904 := by simpa [isNumB] using ki
  have ci : ((i.toNat : Nat) : Int) = i := by omega
  have rt : 0 ≤ t ∧ t ≤ 4611686018427387904 := by simpa [isNumB] using kt
  have ct : ((t.toNat : Nat) : Int) = t := by omega
  have hr := rdSnap_tx i.toNat t.toNat m (by omega) (by omega) km
  have hg : geSnap (txSnap i t m) = 0 := by
    unfold geSnap txSnap
    rw [hr]; simp only; rw [if_pos (doneE_end _), ci, ct, h]
  refine ⟨hg, ?_⟩
  unfold goSnap
  rw [if_pos hg]
  unfold txSnap
  rw [hr]
theorem txSnap_len (i t : Int) (m : List UInt8) : (txSnap i t m).length ≤ 30 + m.length := by
  have hbi := numB_len i.toNat
  have hbt := numB_len t.toNat
  have hbm := numB_len m.length
  simp [txSnap]; omega

def txEntry (t i k : Int) (m : List UInt8) : List UInt8 := numB t.toNat ++ numB i.toNat ++ numB k.toNat ++ (numB m.length ++ m)
def rdEntry (l : List UInt8) : (Nat × Nat × Nat × List UInt8) × (Nat × Nat) := (((rdN l (0, 0)).1, (rdN l (rdN l (0, 0)).2).1, (rdN l (rdN l (rdN l (0, 0)).2).2).1, (rdB l 4096 (rdN l (rdN l (rdN l (0, 0)).2).2).2).1), (rdB l 4096 (rdN l (rdN l (rdN l (0, 0)).2).2).2).2)
def geEntry (l : List UInt8) : Nat := if doneE l (rdEntry l).2.1 (rdEntry l).2.2 = 0 then ckEntry ((rdEntry l).1.1 : Int) ((rdEntry l).1.2.1 : Int) ((rdEntry l).1.2.2.1 : Int) ((rdEntry l).1.2.2.2).length else doneE l (rdEntry l).2.1 (rdEntry l).2.2
def goEntry (l : List UInt8) : Nat × Nat × Nat × List UInt8 := if geEntry l = 0 then (rdEntry l).1 else (0, 0, 0, [])
theorem ckEntry_ok {t i k : Int} {n : Nat} (h : ckEntry t i k n = 0) : isNumB t = true ∧ isNumB i = true ∧ isNumB k = true ∧ (n : Int) ≤ 4096 := by
  unfold ckEntry at h
  cases h1 : isIn t 1 4611686018427387904 <;> cases h2 : isIn i 1 4611686018427387904 <;> simp only [h1, h2, if_true, if_false, Bool.true_eq_false] at h <;> try (simp at h; done)
  refine ⟨(isIn_num _ _ _ (by omega) (by omega) h1).1, (isIn_num _ _ _ (by omega) (by omega) h2).1, ?_⟩
  by_cases hk : k ≠ 0 ∧ k ≠ 1
  · rw [if_pos hk] at h; simp at h
  · rw [if_neg hk] at h
    by_cases hn : (4096 : Int) < (n : Int)
    · rw [if_pos hn] at h; simp at h
    · exact ⟨by simp [isNumB]; omega, by omega⟩
theorem rdEntry_tx (t i k : Nat) (m : List UInt8) (ht : t ≤ 4611686018427387904) (hi : i ≤ 4611686018427387904) (hk : k ≤ 4611686018427387904) (hm : (m.length : Int) ≤ 4096) : rdEntry (numB t ++ numB i ++ numB k ++ (numB m.length ++ m)) = ((t, i, k, m), ((numB t ++ numB i ++ numB k ++ (numB m.length ++ m)).length, 0)) := by
  have e0 := rdN_mid ([]) t (numB i ++ numB k ++ (numB m.length ++ m)) ht
  have e1 := rdN_mid (numB t) i (numB k ++ (numB m.length ++ m)) hi
  have e2 := rdN_mid (numB t ++ numB i) k ((numB m.length ++ m)) hk
  have e3 := rdB_mid (numB t ++ numB i ++ numB k) m ([]) 4096 (by omega) hm
  simp only [List.nil_append, List.append_nil, List.append_assoc, List.length_nil] at e0 e1 e2 e3
  unfold rdEntry
  simp only [List.append_assoc]
  rw [e0]; simp only
  rw [e1]; simp only
  rw [e2]; simp only
  rw [e3]

theorem geEntry_tx {t i k : Int} {m : List UInt8} (h : ckEntry t i k m.length = 0) : geEntry (txEntry t i k m) = 0 ∧ goEntry (txEntry t i k m) = (t.toNat, i.toNat, k.toNat, m) := by
  obtain ⟨kt, ki, kk, km⟩ := ckEntry_ok h
  have rt : 0 ≤ t ∧ t ≤ 4611686018427387904 := by simpa [isNumB] using kt
  have ct : ((t.toNat : Nat) : Int) = t := by omega
  have ri : 0 ≤ i ∧ i ≤ 4611686018427387904 := by simpa [isNumB] using ki
  have ci : ((i.toNat : Nat) : Int) = i := by omega
  have rk : 0 ≤ k ∧ k ≤ 4611686018427387904 := by simpa [isNumB] using kk
  have ck : ((k.toNat : Nat) : Int) = k := by omega
  have hr := rdEntry_tx t.toNat i.toNat k.toNat m (by omega) (by omega) (by omega) km
  have hg : geEntry (txEntry t i k m) = 0 := by
    unfold geEntry txEntry
    rw [hr]; simp only; rw [if_pos (doneE_end _), ct, ci, ck, h]
  refine ⟨hg, ?_⟩
  unfold goEntry
  rw [if_pos hg]
  unfold txEntry
  rw [hr]
theorem txEntry_len (t i k : Int) (m : List UInt8) : (txEntry t i k m).length ≤ 40 + m.length := by
  have hbt := numB_len t.toNat
  have hbi := numB_len i.toNat
  have hbk := numB_len k.toNat
  have hbm := numB_len m.length
  simp [txEntry]; omega

def txCommand (o c s : Int) (k v d : List UInt8) : List UInt8 := numB o.toNat ++ numB c.toNat ++ numB s.toNat ++ (numB k.length ++ k) ++ (numB v.length ++ v) ++ (numB d.length ++ d)
def rdCommand (l : List UInt8) : (Nat × Nat × Nat × List UInt8 × List UInt8 × List UInt8) × (Nat × Nat) := (((rdN l (0, 0)).1, (rdN l (rdN l (0, 0)).2).1, (rdN l (rdN l (rdN l (0, 0)).2).2).1, (rdB l 64 (rdN l (rdN l (rdN l (0, 0)).2).2).2).1, (rdB l 1024 (rdB l 64 (rdN l (rdN l (rdN l (0, 0)).2).2).2).2).1, (rdB l 1024 (rdB l 1024 (rdB l 64 (rdN l (rdN l (rdN l (0, 0)).2).2).2).2).2).1), (rdB l 1024 (rdB l 1024 (rdB l 64 (rdN l (rdN l (rdN l (0, 0)).2).2).2).2).2).2)
def geCommand (l : List UInt8) : Nat := if doneE l (rdCommand l).2.1 (rdCommand l).2.2 = 0 then ckCommand ((rdCommand l).1.1 : Int) ((rdCommand l).1.2.1 : Int) ((rdCommand l).1.2.2.1 : Int) (rdCommand l).1.2.2.2.1 (rdCommand l).1.2.2.2.2.1 (rdCommand l).1.2.2.2.2.2 else doneE l (rdCommand l).2.1 (rdCommand l).2.2
def goCommand (l : List UInt8) : Nat × Nat × Nat × List UInt8 × List UInt8 × List UInt8 := if geCommand l = 0 then (rdCommand l).1 else (0, 0, 0, [], [], [])
theorem ckCommand_ok {o c s : Int} {k v d : List UInt8} (h : ckCommand o c s k v d = 0) : isNumB o = true ∧ isNumB c = true ∧ isNumB s = true ∧ (k.length : Int) ≤ 64 ∧ (v.length : Int) ≤ 1024 ∧ (d.length : Int) ≤ 1024 := by
  unfold ckCommand at h
  cases h1 : isIn o 2 4 <;> cases h2 : isIn c 1 4611686018427387904 <;> cases h3 : isIn s 1 4611686018427387904 <;> simp only [h1, h2, h3, if_true, if_false, Bool.true_eq_false] at h <;> try (simp at h; done)
  refine ⟨(isIn_num _ _ _ (by omega) (by omega) h1).1, (isIn_num _ _ _ (by omega) (by omega) h2).1, (isIn_num _ _ _ (by omega) (by omega) h3).1, ?_⟩
  by_cases e1 : (64 : Int) < (k.length : Int)
  · rw [if_pos e1] at h; simp at h
  · rw [if_neg e1] at h
    by_cases e2 : (1024 : Int) < (v.length : Int)
    · rw [if_pos e2] at h; simp at h
    · rw [if_neg e2] at h
      by_cases e3 : (1024 : Int) < (d.length : Int)
      · rw [if_pos e3] at h; simp at h
      · exact ⟨by omega, by omega, by omega⟩
theorem rdCommand_tx (o c s : Nat) (k v d : List UInt8) (ho : o ≤ 4611686018427387904) (hc : c ≤ 4611686018427387904) (hs : s ≤ 4611686018427387904) (hk : (k.length : Int) ≤ 64) (hv : (v.length : Int) ≤ 1024) (hd : (d.length : Int) ≤ 1024) : rdCommand (numB o ++ numB c ++ numB s ++ (numB k.length ++ k) ++ (numB v.length ++ v) ++ (numB d.length ++ d)) = ((o, c, s, k, v, d), ((numB o ++ numB c ++ numB s ++ (numB k.length ++ k) ++ (numB v.length ++ v) ++ (numB d.length ++ d)).length, 0)) := by
  have e0 := rdN_mid ([]) o (numB c ++ numB s ++ (numB k.length ++ k) ++ (numB v.length ++ v) ++ (numB d.length ++ d)) ho
  have e1 := rdN_mid (numB o) c (numB s ++ (numB k.length ++ k) ++ (numB v.length ++ v) ++ (numB d.length ++ d)) hc
  have e2 := rdN_mid (numB o ++ numB c) s ((numB k.length ++ k) ++ (numB v.length ++ v) ++ (numB d.length ++ d)) hs
  have e3 := rdB_mid (numB o ++ numB c ++ numB s) k ((numB v.length ++ v) ++ (numB d.length ++ d)) 64 (by omega) hk
  have e4 := rdB_mid (numB o ++ numB c ++ numB s ++ (numB k.length ++ k)) v ((numB d.length ++ d)) 1024 (by omega) hv
  have e5 := rdB_mid (numB o ++ numB c ++ numB s ++ (numB k.length ++ k) ++ (numB v.length ++ v)) d ([]) 1024 (by omega) hd
  simp only [List.nil_append, List.append_nil, List.append_assoc, List.length_nil] at e0 e1 e2 e3 e4 e5
  unfold rdCommand
  simp only [List.append_assoc]
  rw [e0]; simp only
  rw [e1]; simp only
  rw [e2]; simp only
  rw [e3]; simp only
  rw [e4]; simp only
  rw [e5]

theorem geCommand_tx {o c s : Int} {k v d : List UInt8} (h : ckCommand o c s k v d = 0) : geCommand (txCommand o c s k v d) = 0 ∧ goCommand (txCommand o c s k v d) = (o.toNat, c.toNat, s.toNat, k, v, d) := by
  obtain ⟨ko, kc, ks, kk, kv, kd⟩ := ckCommand_ok h
  have ro : 0 ≤ o ∧ o ≤ 4611686018427387904 := by simpa [isNumB] using ko
  have co : ((o.toNat : Nat) : Int) = o := by omega
  have rc : 0 ≤ c ∧ c ≤ 4611686018427387904 := by simpa [isNumB] using kc
  have cc : ((c.toNat : Nat) : Int) = c := by omega
  have rs : 0 ≤ s ∧ s ≤ 4611686018427387904 := by simpa [isNumB] using ks
  have cs : ((s.toNat : Nat) : Int) = s := by omega
  have hr := rdCommand_tx o.toNat c.toNat s.toNat k v d (by omega) (by omega) (by omega) kk kv kd
  have hg : geCommand (txCommand o c s k v d) = 0 := by
    unfold geCommand txCommand
    rw [hr]; simp only; rw [if_pos (doneE_end _), co, cc, cs, h]
  refine ⟨hg, ?_⟩
  unfold goCommand
  rw [if_pos hg]
  unfold txCommand
  rw [hr]
theorem txCommand_len (o c s : Int) (k v d : List UInt8) : (txCommand o c s k v d).length ≤ 60 + k.length + v.length + d.length := by
  have hbo := numB_len o.toNat
  have hbc := numB_len c.toNat
  have hbs := numB_len s.toNat
  have hbk := numB_len k.length
  have hbv := numB_len v.length
  have hbd := numB_len d.length
  simp [txCommand]; omega
end Go.Proofs.Ytfnnbfgfmbiabab
