/-
  A snapshot is restored as the store that it was of.
-/
import Derived.Test.YtglhjgfaelfleaaGreatRc
namespace Go.Proofs.YtglhjgfaelfleaaGreat
open Go.RowKit
set_option linter.unusedVariables false

theorem mustF_true (c : Nat) (t : Ld) : mustF true c t = t := by unfold mustF; rw [if_neg (by simp)]
theorem numB_pos (n : Nat) : 0 < (numB n).length := num_len_pos 9 n
theorem numF_mid {l pre rest : Bs} {n : Nat} (hl : l = pre ++ (numB n ++ rest)) (hn : n ≤ 4611686018427387904) : numF l ⟨pre.length, 0, 0⟩ = (n, ⟨(pre ++ numB n).length, 0, 0⟩) := by
  subst hl
  unfold numF
  dsimp only
  rw [pk_mid pre n rest hn]
  dsimp only
  have := numB_pos n
  unfold lookF
  rw [if_neg (by dsimp only; omega), List.length_append]
theorem texF_mid {l pre m rest : Bs} {most : Int} (hl : l = pre ++ ((numB m.length ++ m) ++ rest)) (hm : m.length ≤ 100000) (hmost : (m.length : Int) ≤ most) : texF l most ⟨pre.length, 0, 0⟩ = (m, ⟨(pre ++ (numB m.length ++ m)).length, 0, 0⟩) := by
  subst hl
  unfold texF
  dsimp only
  rw [takeAt_mid pre m rest most (by omega) (by omega)]
  dsimp only
  have := numB_pos m.length
  unfold lookF
  rw [if_neg (by dsimp only; omega)]
  simp [Nat.add_assoc]
theorem cntF_mid {l pre rest : Bs} {n most : Nat} (hl : l = pre ++ (numB n ++ rest)) (hn : n ≤ most) (hm : most ≤ 1000) : cntF l most ⟨pre.length, 0, 0⟩ = (n, ⟨(pre ++ numB n).length, 0, 0⟩) := by
  unfold cntF
  rw [numF_mid hl (by omega)]
  dsimp only
  rw [decide_eq_true hn, mustF_true, if_pos rfl]
theorem pairF_mid {l pre rest : Bs} {p : Bs × Bs} {ah : Bs} {ps : List (Bs × Bs)} (hl : l = pre ++ (txP p ++ rest)) (hp : PrOk p) (hb : bytesBefore ah p.1 = true) : pairF l ((ah, ps), ⟨pre.length, 0, 0⟩) = ((p.1, putK kP p ps), ⟨(pre ++ txP p).length, 0, 0⟩) := by
  unfold pairF
  dsimp only
  have h1 := hp.key.2
  have h2 := hp.val
  rw [texF_mid (m := p.1) (rest := (numB p.2.length ++ p.2) ++ rest) (most := 64) (by rw [hl]; simp [txP]) (by omega) (by omega)]
  dsimp only
  rw [hb, mustF_true, texF_mid (m := p.2) (rest := rest) (most := 1024) (by rw [hl]; simp [txP]) (by omega) (by omega)]
  dsimp only
  congr 1
  simp [txP]
theorem keptB_of {c : Int} (h : c = 1 ∨ c = 2 ∨ c = 3 ∨ c = 5) : keptB c.toNat = true ∧ ((c.toNat : Nat) : Int) = c ∧ c.toNat ≤ 5 := by
  rcases h with rfl | rfl | rfl | rfl <;> decide
theorem sesF_mid {l pre rest : Bs} {s : Se} {ah : Nat} {ss : List Se} (hl : l = pre ++ (txS s ++ rest)) (hs : SeOk s) (hb : (ah : Int) < s.cl) : sesF l ((ah, ss), ⟨pre.length, 0, 0⟩) = ((s.cl.toNat, putK kS s ss), ⟨(pre ++ txS s).length, 0, 0⟩) := by
  unfold sesF
  dsimp only
  have h1 := hs.cl
  have h2 := hs.sq
  have h3 := keptB_of hs.code
  have h4 := hs.val
  have e1 : ((s.cl.toNat : Nat) : Int) = s.cl := by omega
  have e2 : ((s.sq.toNat : Nat) : Int) = s.sq := by omega
  have hno : decide (s.rp.val = [] ∨ s.rp.code.toNat = 3) = true := by
    by_cases hc : s.rp.code = 3
    · simp [hc]
    · simp [hs.no hc]
  rw [numF_mid (n := s.cl.toNat) (rest := numB s.sq.toNat ++ (numB s.rp.code.toNat ++ (numB s.rp.val.length ++ s.rp.val)) ++ rest) (by rw [hl]; simp [txS]) (by omega)]
  dsimp only
  rw [decide_eq_true (show ah < s.cl.toNat by omega), mustF_true]
  have hq : seqF l ⟨(pre ++ numB s.cl.toNat).length, 0, 0⟩ = (s.sq.toNat, ⟨((pre ++ numB s.cl.toNat) ++ numB s.sq.toNat).length, 0, 0⟩) := by
    unfold seqF
    rw [numF_mid (n := s.sq.toNat) (rest := (numB s.rp.code.toNat ++ (numB s.rp.val.length ++ s.rp.val)) ++ rest) (by rw [hl]; simp [txS]) (by omega)]
    dsimp only
    rw [decide_eq_true (show 0 < s.sq.toNat by omega), mustF_true]
  rw [hq]
  dsimp only
  have hr1 : numF l ⟨((pre ++ numB s.cl.toNat) ++ numB s.sq.toNat).length, 0, 0⟩ = (s.rp.code.toNat, ⟨(((pre ++ numB s.cl.toNat) ++ numB s.sq.toNat) ++ numB s.rp.code.toNat).length, 0, 0⟩) :=
    numF_mid (rest := (numB s.rp.val.length ++ s.rp.val) ++ rest) (by rw [hl]; simp [txS]) (by omega)
  have hr2 : rplF1 l ⟨((pre ++ numB s.cl.toNat) ++ numB s.sq.toNat).length, 0, 0⟩ = ⟨(((pre ++ numB s.cl.toNat) ++ numB s.sq.toNat) ++ numB s.rp.code.toNat).length, 0, 0⟩ := by
    unfold rplF1
    rw [hr1]
    dsimp only
    rw [h3.1, mustF_true]
  have hr : rplF l ⟨((pre ++ numB s.cl.toNat) ++ numB s.sq.toNat).length, 0, 0⟩ = (s.rp, ⟨((((pre ++ numB s.cl.toNat) ++ numB s.sq.toNat) ++ numB s.rp.code.toNat) ++ (numB s.rp.val.length ++ s.rp.val)).length, 0, 0⟩) := by
    unfold rplF
    rw [hr2, hr1, texF_mid (m := s.rp.val) (rest := rest) (most := 1024) (by rw [hl]; simp [txS]) (by omega) (by omega)]
    dsimp only
    rw [hno, mustF_true, h3.2.1]
  rw [hr, e1, e2]
  dsimp only
  congr 1
  simp [txS]

/-- The key of the last. -/
def lastK (ps : List (Bs × Bs)) : Bs := match ps.getLast? with | some p => p.1 | none => []
def lastC (ss : List Se) : Nat := match ss.getLast? with | some s => s.cl.toNat | none => 0
theorem take_succ' {α : Type} {xs : List α} {k : Nat} (h : k < xs.length) : xs.take (k + 1) = xs.take k ++ [xs[k]] := List.take_succ_eq_append_getElem h
theorem split_at {α : Type} {xs : List α} {k : Nat} (h : k < xs.length) : xs = xs.take k ++ xs[k] :: xs.drop (k + 1) := by
  rw [← List.drop_eq_getElem_cons h, List.take_append_drop]
theorem flat_split {α : Type} (f : α → Bs) {xs : List α} {k : Nat} (h : k < xs.length) : xs.flatMap f = (xs.take k).flatMap f ++ (f xs[k] ++ (xs.drop (k + 1)).flatMap f) := by
  have e := congrArg (List.flatMap f) (split_at h)
  rw [List.flatMap_append, List.flatMap_cons] at e
  exact e
theorem lastK_snoc (ps : List (Bs × Bs)) (p : Bs × Bs) : lastK (ps ++ [p]) = p.1 := by unfold lastK; rw [List.getLast?_concat]
theorem lastC_snoc (ss : List Se) (s : Se) : lastC (ss ++ [s]) = s.cl.toNat := by unfold lastC; rw [List.getLast?_concat]
theorem ris_at {α : Type} {κ : α → Lit} {xs : List α} (hr : Ris κ xs) {k : Nat} (h : k < xs.length) : ∀ y ∈ xs.take k, (κ y).before (κ xs[k]) = true := by
  intro y hy
  unfold Ris at hr
  rw [split_at h] at hr
  exact (List.pairwise_append.1 hr).2.2 y hy _ List.mem_cons_self
theorem pairs_mid {l pre rest : Bs} {ps : List (Bs × Bs)} (hl : l = pre ++ (ps.flatMap txP ++ rest)) (hp : ∀ p ∈ ps, PrOk p) (hr : Ris kP ps) : ∀ k, k ≤ ps.length → itr (pairF l) k (([], []), ⟨pre.length, 0, 0⟩) = ((lastK (ps.take k), ps.take k), ⟨(pre ++ (ps.take k).flatMap txP).length, 0, 0⟩) := by
  intro k
  induction k with
  | zero => intro _; simp [itr, lastK]
  | succ k ih =>
    intro hk
    have hk' : k < ps.length := by omega
    have e : itr (pairF l) (k + 1) (([], []), ⟨pre.length, 0, 0⟩) = pairF l (itr (pairF l) k (([], []), ⟨pre.length, 0, 0⟩)) := rfl
    rw [e, ih (by omega)]
    have hx := hp ps[k] (List.getElem_mem hk')
    have hb : bytesBefore (lastK (ps.take k)) ps[k].1 = true := by
      unfold lastK
      cases hq : (ps.take k).getLast? with
      | none =>
        dsimp only
        have := hx.key.1
        cases he : ps[k].1 with
        | nil => exact absurd he this
        | cons a b => rfl
      | some y =>
        dsimp only
        exact ris_at hr hk' y (List.mem_of_getLast? hq)
    have e2 : l = (pre ++ (ps.take k).flatMap txP) ++ (txP ps[k] ++ ((ps.drop (k + 1)).flatMap txP ++ rest)) := by
      rw [hl, flat_split txP hk']
      simp only [List.append_assoc]
    rw [pairF_mid e2 hx hb, take_succ' hk', put_last (ris_at hr hk'), List.flatMap_append, lastK_snoc, List.flatMap_cons, List.flatMap_nil, List.append_nil, List.append_assoc]
theorem sess_mid {l pre rest : Bs} {ss : List Se} (hl : l = pre ++ (ss.flatMap txS ++ rest)) (hp : ∀ s ∈ ss, SeOk s) (hr : Ris kS ss) : ∀ k, k ≤ ss.length → itr (sesF l) k ((0, []), ⟨pre.length, 0, 0⟩) = ((lastC (ss.take k), ss.take k), ⟨(pre ++ (ss.take k).flatMap txS).length, 0, 0⟩) := by
  intro k
  induction k with
  | zero => intro _; simp [itr, lastC]
  | succ k ih =>
    intro hk
    have hk' : k < ss.length := by omega
    have e : itr (sesF l) (k + 1) ((0, []), ⟨pre.length, 0, 0⟩) = sesF l (itr (sesF l) k ((0, []), ⟨pre.length, 0, 0⟩)) := rfl
    rw [e, ih (by omega)]
    have hx := hp ss[k] (List.getElem_mem hk')
    have hb : ((lastC (ss.take k) : Nat) : Int) < ss[k].cl := by
      unfold lastC
      cases hq : (ss.take k).getLast? with
      | none => dsimp only; have := hx.cl.1; omega
      | some y =>
        dsimp only
        have h1 := ris_at hr hk' y (List.mem_of_getLast? hq)
        have h2 := (hp y (List.mem_of_mem_take (List.mem_of_getLast? hq))).cl.1
        simp [kS, Lit.before] at h1
        omega
    have e2 : l = (pre ++ (ss.take k).flatMap txS) ++ (txS ss[k] ++ ((ss.drop (k + 1)).flatMap txS ++ rest)) := by
      rw [hl, flat_split txS hk']
      simp only [List.append_assoc]
    rw [sesF_mid e2 hx hb, take_succ' hk', put_last (ris_at hr hk'), List.flatMap_append, lastC_snoc, List.flatMap_cons, List.flatMap_nil, List.append_nil, List.append_assoc]

theorem rst_snap {K : KV} (h : K.Ok) (hp : Ris kP K.ps) (hs : Ris kS K.ss) : rstE (snapB K) = 0 ∧ rstK (snapB K) = K := by
  obtain ⟨l, hl⟩ : ∃ l, snapB K = l := ⟨_, rfl⟩
  rw [hl]
  have e0 : l = [] ++ (numB K.ps.length ++ (K.ps.flatMap txP ++ (numB K.ss.length ++ K.ss.flatMap txS))) := by rw [← hl]; simp [snapB]
  have c1 : cntF l 128 ⟨0, 0, 0⟩ = (K.ps.length, ⟨([] ++ numB K.ps.length).length, 0, 0⟩) := cntF_mid (pre := []) e0 h.few (by omega)
  have e1 : l = ([] ++ numB K.ps.length) ++ (K.ps.flatMap txP ++ (numB K.ss.length ++ K.ss.flatMap txS)) := by rw [e0]; simp
  have p1 := pairs_mid e1 h.pr hp K.ps.length (Nat.le_refl _)
  rw [List.take_length] at p1
  have q1 : prsF l ⟨0, 0, 0⟩ = ((lastK K.ps, K.ps), ⟨(([] ++ numB K.ps.length) ++ K.ps.flatMap txP).length, 0, 0⟩) := by unfold prsF; rw [c1]; exact p1
  have e2 : l = (([] ++ numB K.ps.length) ++ K.ps.flatMap txP) ++ (numB K.ss.length ++ K.ss.flatMap txS) := by rw [e0]; simp
  have c2 : cntF l 32 ⟨(([] ++ numB K.ps.length) ++ K.ps.flatMap txP).length, 0, 0⟩ = (K.ss.length, ⟨((([] ++ numB K.ps.length) ++ K.ps.flatMap txP) ++ numB K.ss.length).length, 0, 0⟩) := cntF_mid e2 h.fewS (by omega)
  have e3 : l = ((([] ++ numB K.ps.length) ++ K.ps.flatMap txP) ++ numB K.ss.length) ++ (K.ss.flatMap txS ++ []) := by rw [e0]; simp
  have p2 := sess_mid e3 h.se hs K.ss.length (Nat.le_refl _)
  rw [List.take_length] at p2
  have q2 : rst2 l = ((lastC K.ss, K.ss), ⟨(((([] ++ numB K.ps.length) ++ K.ps.flatMap txP) ++ numB K.ss.length) ++ K.ss.flatMap txS).length, 0, 0⟩) := by
    unfold rst2 sssF
    rw [q1]
    dsimp only
    rw [c2]
    exact p2
  refine ⟨?_, ?_⟩
  · unfold rstE donF
    rw [q2]
    dsimp only
    rw [if_neg (by simp)]
    have hlen : (((([] ++ numB K.ps.length) ++ K.ps.flatMap txP) ++ numB K.ss.length) ++ K.ss.flatMap txS).length = l.length := by
      conv => rhs; rw [e3]
      simp
    rw [hlen]
    exact doneE_end l
  · unfold rstK
    rw [q1, q2]
end Go.Proofs.YtglhjgfaelfleaaGreat
