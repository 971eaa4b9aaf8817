/-
  Snapshots on plain disks: names and indices, what Save, List, Load leave and tell.
-/
import Derived.Test.YtadajbdmlmickaaGreatDoorJDa
import Derived.Test.YtadajbdmlmickaaGreatDoorIdx
import Derived.Test.YtadajbdmlmickaaGreatDoorJFr
import Derived.Test.YtadajbdmlmickaaGreatDoorJCc
namespace Go.Proofs.YtadajbdmlmickaaGreatDoor
open Go.RowKit
set_option linter.unusedVariables false

/-- snap.tmp. -/
def tmpL : List UInt8 := [115, 110, 97, 112, 46, 116, 109, 112]

theorem nmL_len (n : Nat) : (nmL n).length = 24 := by simp [nmL, low_len]
/-- The index of an index's name. -/
theorem idx_nm {n : Nat} (h : n ≤ 4611686018427387904) : idxL (nmL n) = n := by
  have h1 : (nmL n).drop 5 = low 19 n := rfl
  have h2 : valL 0 (low 19 n) = n := by
    rw [val_low, Nat.mod_eq_of_lt (by omega)]; omega
  unfold idxL
  rw [h1, h2, if_pos ⟨nmL_len n, rfl, low_dg 19 n, h⟩]
theorem valL_acc : ∀ (l : List UInt8) (acc : Nat), valL acc l = acc * 10 ^ l.length + valL 0 l
  | [], acc => by simp [valL]
  | c :: r, acc => by
    have e1 : ∀ a, valL a (c :: r) = valL (a * 10 + (c.toNat - 48)) r := fun _ => rfl
    rw [e1, e1, valL_acc r (acc * 10 + (c.toNat - 48)), valL_acc r (0 * 10 + (c.toNat - 48)), List.length_cons, Nat.pow_succ]
    simp only [Nat.add_mul, Nat.zero_mul, Nat.zero_add, Nat.mul_assoc, Nat.mul_comm 10]
    omega
theorem dg_low : ∀ (l : List UInt8) (acc : Nat), (∀ c ∈ l, isDg c = true) → low l.length (valL acc l) = l
  | [], acc, _ => rfl
  | c :: r, acc, h => by
    have ih := dg_low r (acc * 10 + (c.toNat - 48)) (fun x hx => h x (List.mem_cons_of_mem _ hx))
    have hv : valL acc (c :: r) = valL (acc * 10 + (c.toNat - 48)) r := rfl
    rw [List.length_cons, low_succ, hv, ih]
    congr 1
    have hc : isDg c = true := h c (List.mem_cons_self ..)
    unfold isDg at hc
    simp only [Bool.and_eq_true, decide_eq_true_eq] at hc
    have hr : ∀ x ∈ r, isDg x = true := fun x hx => h x (List.mem_cons_of_mem _ hx)
    have h1 := valL_lt r 0 hr
    rw [Nat.zero_add, Nat.one_mul] at h1
    unfold Lib.dg
    have h2 : valL (acc * 10 + (c.toNat - 48)) r / 10 ^ r.length = acc * 10 + (c.toNat - 48) := by
      rw [valL_acc r, Nat.add_comm, Nat.add_mul_div_right _ _ (Nat.pow_pos (by omega)), Nat.div_eq_of_lt h1, Nat.zero_add]
    rw [h2]
    have h3 : 48 + (acc * 10 + (c.toNat - 48)) % 10 = c.toNat := by omega
    rw [h3]
    simp
/-- The name of a name's index. -/
theorem nm_idx {l : List UInt8} (h : 0 < idxL l) : nmL (idxL l) = l ∧ idxL l ≤ 4611686018427387904 := by
  unfold idxL at h ⊢
  split at h
  · rename_i hc
    obtain ⟨h1, h2, h3, h4⟩ := hc
    rw [if_pos ⟨h1, h2, h3, h4⟩]
    refine ⟨?_, h4⟩
    have h5 : (l.drop 5).length = 19 := by rw [List.length_drop]; omega
    have h6 := dg_low (l.drop 5) 0 (fun c hc => List.all_eq_true.1 h3 c hc)
    rw [h5] at h6
    unfold nmL
    rw [h6, ← h2, List.take_append_drop]
  · omega
theorem idx_tmp : idxL tmpL = 0 := by unfold idxL; rw [if_neg (by simp [tmpL])]
theorem nm_tmp (n : Nat) : nmL n ≠ tmpL := fun e => by have := congrArg List.length e; rw [nmL_len] at this; simp [tmpL] at this

/-- Digits in order are numbers in order. -/
theorem val_before : ∀ (a b : List UInt8), a.length = b.length → (∀ c ∈ a, isDg c = true) → (∀ c ∈ b, isDg c = true) → bytesBefore a b = true → valL 0 a < valL 0 b
  | [], [], _, _, _, h => by simp [bytesBefore] at h
  | [], y :: t, hl, _, _, _ => by simp at hl
  | x :: s, [], hl, _, _, _ => by simp at hl
  | x :: s, y :: t, hl, ha, hb, h => by
    have hl' : s.length = t.length := by simpa using hl
    have hx : isDg x = true := ha x (List.mem_cons_self ..)
    have hy : isDg y = true := hb y (List.mem_cons_self ..)
    have hs : ∀ c ∈ s, isDg c = true := fun c hc => ha c (List.mem_cons_of_mem _ hc)
    have ht : ∀ c ∈ t, isDg c = true := fun c hc => hb c (List.mem_cons_of_mem _ hc)
    unfold isDg at hx hy
    simp only [Bool.and_eq_true, decide_eq_true_eq] at hx hy
    have e1 : ∀ (c : UInt8) (r : List UInt8), valL 0 (c :: r) = (c.toNat - 48) * 10 ^ r.length + valL 0 r := fun c r => by
      have : valL 0 (c :: r) = valL (0 * 10 + (c.toNat - 48)) r := rfl
      rw [this, valL_acc]; simp
    rw [e1, e1, hl']
    have h1 := valL_lt s 0 hs
    rw [Nat.zero_add, Nat.one_mul, hl'] at h1
    simp only [bytesBefore] at h
    by_cases hxy : x = y
    · subst hxy
      have h2 : bytesBefore s t = true := by simpa using h
      have := val_before s t hl' hs ht h2
      omega
    · have hlt : x.toNat < y.toNat := by
        have hn : ¬ x.toNat = y.toNat := fun e => hxy (UInt8.toNat_inj.1 e)
        simp [hxy] at h
        have := h
        simp [UInt8.lt_iff_toNat_lt] at this
        omega
      have : (x.toNat - 48 + 1) * 10 ^ t.length ≤ (y.toNat - 48) * 10 ^ t.length := Nat.mul_le_mul_right _ (by omega)
      rw [Nat.add_mul, Nat.one_mul] at this
      omega
theorem before_app : ∀ (p a b : List UInt8), bytesBefore (p ++ a) (p ++ b) = bytesBefore a b
  | [], a, b => rfl
  | x :: p, a, b => by simp only [List.cons_append, bytesBefore]; simp [before_app p a b]
theorem idx_before {a b : List UInt8} (ha : 0 < idxL a) (hb : 0 < idxL b) (h : bytesBefore a b = true) : idxL a < idxL b := by
  have h1 := nm_idx ha
  have h2 := nm_idx hb
  rw [← h1.1, ← h2.1] at h
  unfold nmL at h
  rw [before_app] at h
  have := val_before _ _ (by rw [low_len, low_len]) (fun c hc => List.all_eq_true.1 (low_dg 19 _) c hc) (fun c hc => List.all_eq_true.1 (low_dg 19 _) c hc) h
  rw [val_low, val_low, Nat.mod_eq_of_lt (by omega), Nat.mod_eq_of_lt (by omega)] at this
  omega

/-! What is done to a disk. -/
def thenP (x : Nat × PD) (f : PD → Nat × PD) : Nat × PD := if x.1 = 0 then f x.2 else x
/-- Save's writes. -/
def saveS (p : PD) (b : List UInt8) (i : Nat) : Nat × PD :=
  thenP (thenP (thenP (thenP (if (lookP tmpL p.fs).isSome then doRemove p tmpL else (0, p)) (fun q => doCreate q tmpL)) (fun q => doAppend q tmpL b)) (fun q => doSync q tmpL)) (fun q => doRename q tmpL (nmL i))
/-- framed's error. -/
def frmE (i t : Int) (n : Nat) : Nat := if Cd.ckSnap i t n ≠ 0 then Cd.ckSnap i t n else if i = 0 then 4 else 0
def frL (i t : Int) (m : List UInt8) : List UInt8 := Fr.frameB (Cd.txSnap i t m)
def saveP (p : PD) (i t : Int) (m : List UInt8) : Nat × PD := if frmE i t m.length ≠ 0 then (frmE i t m.length, p) else saveS p (frL i t m) i.toNat
/-- The indices of the snapshots' files. -/
def listP (p : PD) : List Nat := (p.fs.map fun f => idxL f.nm).filter (fun n => decide (0 < n))
/-- The snapshot that bytes are, if its index is i. -/
def snapD (i : Nat) (d : List UInt8) : Option (Nat × Nat × List UInt8) :=
  if (Fr.oneOf d).2 = 0 ∧ Cd.geSnap (Fr.oneOf d).1 = 0 ∧ (Cd.goSnap (Fr.oneOf d).1).1 = i then some (Cd.goSnap (Fr.oneOf d).1) else none
def wholeP (p : PD) (i : Nat) : Option (Nat × Nat × List UInt8) := match lookP (nmL i) p.fs with | some f => snapD i f.dat | none => none
/-- What Load tells: of indices that fall, k of which were passed. -/
def loadL (p : PD) : List Nat → Nat → (Nat × Nat × List UInt8) × Nat × Nat
  | [], _ => ((0, 0, []), 0, 8)
  | i :: r, k => match wholeP p i with | some s => (s, k, 0) | none => loadL p r (k + 1)
def loadS (p : PD) : (Nat × Nat × List UInt8) × Nat × Nat := loadL p (listP p).reverse 0

theorem list_rise {p : PD} (h : p.fs.Pairwise (fun f g => bytesBefore f.nm g.nm = true)) : (listP p).Pairwise (· < ·) := by
  unfold listP
  rw [List.filter_map, List.pairwise_map]
  refine (h.filter _).imp_of_mem ?_
  intro a b ha hb hab
  have h1 := (List.mem_filter.1 ha).2
  have h2 := (List.mem_filter.1 hb).2
  simp at h1 h2
  exact idx_before h1 h2 hab
theorem list_mem {p : PD} {i : Nat} (h : i ∈ listP p) : 0 < i ∧ i ≤ 4611686018427387904 ∧ ∃ f ∈ p.fs, f.nm = nmL i := by
  unfold listP at h
  obtain ⟨h1, h2⟩ := List.mem_filter.1 h
  obtain ⟨f, hf, rfl⟩ := List.mem_map.1 h1
  have h3 : 0 < idxL f.nm := by simpa using h2
  exact ⟨h3, (nm_idx h3).2, f, hf, (nm_idx h3).1.symm⟩
theorem snapD_fr {i t : Int} {m : List UInt8} (h : frmE i t m.length = 0) : snapD i.toNat (frL i t m) = some (i.toNat, t.toNat, m) ∧ 0 < i.toNat ∧ i.toNat ≤ 4611686018427387904 ∧ ((i.toNat : Nat) : Int) = i ∧ ((t.toNat : Nat) : Int) = t ∧ m.length ≤ 524288 := by
  unfold frmE at h
  by_cases hc : Cd.ckSnap i t m.length = 0
  · rw [if_neg (by simpa using hc)] at h
    by_cases hi : i = 0
    · rw [if_pos hi] at h; cases h
    · obtain ⟨k1, k2, k3⟩ := Cd.ckSnap_ok hc
      obtain ⟨g1, g2⟩ := Cd.geSnap_tx hc
      have k1' : 0 ≤ i ∧ i ≤ 4611686018427387904 := by simpa [Cd.isNumB] using k1
      have k2' : 0 ≤ t ∧ t ≤ 4611686018427387904 := by simpa [Cd.isNumB] using k2
      have hl := Cd.txSnap_len i t m
      have ho := Fr.oneOf_frame (Cd.txSnap i t m) (by omega)
      unfold snapD frL
      rw [ho]
      refine ⟨?_, by omega, by omega, by omega, by omega, by omega⟩
      rw [if_pos ⟨rfl, g1, by rw [g2]⟩, g2]
  · rw [if_pos hc] at h; exact absurd h hc
end Go.Proofs.YtadajbdmlmickaaGreatDoor
