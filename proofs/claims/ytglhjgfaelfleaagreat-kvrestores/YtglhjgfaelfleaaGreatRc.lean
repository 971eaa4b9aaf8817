/-
  What is restored: of a snapshot the store, and of any bytes a store that has them as its snapshot.
-/
import Derived.Test.YtglhjgfaelfleaaGreatLq
namespace Go.Proofs.YtglhjgfaelfleaaGreat
open Go.RowKit
set_option linter.unusedVariables false

/-- All bytes but the last have 80 (hex) added; the last has not. -/
def GoodN : List UInt8 → Prop
  | [] => False
  | [x] => x.toNat < 128
  | x :: y :: l => 128 ≤ x.toNat ∧ GoodN (y :: l)

theorem ahead_good : ∀ (f : Nat) (l : List UInt8), ahead f l ≠ [] → lastB (ahead f l) < 128 → GoodN (ahead f l)
  | 0, l, h, _ => by simp [ahead] at h
  | f + 1, [], h, _ => by simp [ahead] at h
  | f + 1, x :: l, h, hl => by
    by_cases hx : x.toNat < 128
    · simp only [ahead, hx, if_true, GoodN]
    · simp only [ahead, hx, if_false] at hl ⊢
      cases hq : ahead f l with
      | nil => rw [hq] at hl; simp only [lastB, List.getLastD_cons, List.getLastD_nil] at hl; omega
      | cons y q =>
        rw [hq] at hl
        rw [lastB_cons _ _ (by simp)] at hl
        have := ahead_good f l (by rw [hq]; simp) (by rw [hq]; exact hl)
        rw [hq] at this
        exact ⟨by omega, this⟩

theorem ahead_front : ∀ (f : Nat) (l : List UInt8), ahead f l = l.take (ahead f l).length
  | 0, l => by simp [ahead]
  | f + 1, [] => by simp [ahead]
  | f + 1, x :: l => by
    by_cases hx : x.toNat < 128
    · simp [ahead, hx]
    · have := ahead_front f l
      simp only [ahead, hx, if_false, List.length_cons, List.take_succ_cons]
      exact congrArg (x :: ·) this

theorem GoodN.val_pos : ∀ {p : List UInt8}, GoodN p → lastB p ≠ 0 → 0 < val p
  | [], h, _ => h.elim
  | [x], h, hl => by
    simp only [lastB, List.getLastD_cons, List.getLastD_nil] at hl
    simp only [GoodN] at h
    simp only [val]; omega
  | x :: y :: l, h, hl => by
    rw [lastB_cons _ _ (by simp)] at hl
    have := GoodN.val_pos h.2 hl
    simp only [val] at this ⊢; omega

theorem GoodN.canon : ∀ {p : List UInt8} (f : Nat), GoodN p → (1 < p.length → lastB p ≠ 0) → p.length ≤ f + 1 → num f (val p) = p
  | [], _, h, _, _ => h.elim
  | [x], f, h, _, _ => by
    simp only [GoodN] at h
    have e : val [x] = x.toNat := by simp only [val]; omega
    rw [e, num_lt h]; simp
  | x :: y :: l, 0, h, _, hf => by simp at hf
  | x :: y :: l, f + 1, h, hl, hf => by
    have hl' := hl (by simp)
    rw [lastB_cons _ _ (by simp)] at hl'
    have hp := GoodN.val_pos h.2 hl'
    have ih := GoodN.canon f h.2 (fun _ => hl') (by simpa using hf)
    have hx := h.1
    have hx2 := x.toNat_lt
    have e : val (x :: y :: l) = x.toNat % 128 + 128 * val (y :: l) := rfl
    rw [e, num_ge (by omega)]
    have e1 : (x.toNat % 128 + 128 * val (y :: l)) / 128 = val (y :: l) := by omega
    have e2 : (x.toNat % 128 + 128 * val (y :: l)) % 128 + 128 = x.toNat := by omega
    rw [e1, e2, ih]; simp

theorem GoodN.hi : ∀ {p : List UInt8}, GoodN p → ∀ j, j + 1 < p.length → 128 ≤ (byteAt p j).toNat
  | [], h, _, _ => h.elim
  | [x], _, j, hj => by simp at hj
  | x :: y :: l, h, 0, _ => by simpa [byteAt] using h.1
  | x :: y :: l, h, j + 1, hj => by
    have := GoodN.hi h.2 j (by simpa using hj)
    simpa [byteAt] using this

theorem verdict_ok (p : List UInt8) (h : (verdict p).2.2 = 0) : verdict p = (val p, p.length, 0) ∧ lastB p < 128 ∧ (1 < p.length → lastB p ≠ 0) ∧ val p ≤ 4611686018427387904 := by
  unfold verdict at h ⊢
  split at h
  · simp at h
  · split at h
    · simp at h
    · split at h
      · simp at h
      · split at h
        · simp at h
        · rename_i h1 h2 h3 h4
          rw [if_neg h1, if_neg h2, if_neg h3, if_neg h4]
          exact ⟨rfl, by omega, fun hp hz => h3 ⟨hz, hp⟩, by omega⟩

/-- The whole of it. -/
theorem intAt_fronts (l : List UInt8) (i : Int) (h : (intAt l i).2.2 = 0) :
    ∃ a k n : Nat, i = (a : Int) ∧ intAt l i = (n, k, 0) ∧ 1 ≤ k ∧ k ≤ 9 ∧ a + k ≤ l.length ∧ n ≤ 4611686018427387904 ∧ numB n = (l.drop a).take k ∧ intAt (l.take (a + k - 1)) (a : Int) = (0, 0, 2) := by
  by_cases hi : i < 0 ∨ (l.length : Int) ≤ i
  · rw [intAt_off l i hi] at h; simp at h
  · obtain ⟨a, rfl⟩ := Int.eq_ofNat_of_zero_le (show 0 ≤ i by omega)
    have e : intAt l (a : Int) = verdict (ahead 9 (l.drop a)) := by
      unfold intAt; rw [if_neg hi]; simp only [Int.toNat_natCast]
    rw [e] at h ⊢
    obtain ⟨h1, h2, h3, h4⟩ := verdict_ok _ h
    have hal : a < l.length := by omega
    have hne : ahead 9 (l.drop a) ≠ [] := by
      rw [drop_consB l a hal]
      simp only [ahead]; split <;> simp
    have hg := ahead_good 9 (l.drop a) hne h2
    have hfr := ahead_front 9 (l.drop a)
    have h9 := ahead_len_le 9 (l.drop a)
    have hll := ahead_len_le' 9 (l.drop a)
    have hpos : 0 < (ahead 9 (l.drop a)).length := List.length_pos_iff.2 hne
    have hhi := hg.hi
    have hc := hg.canon 9 h3 (by omega)
    generalize ahead 9 (l.drop a) = p at *
    simp only [List.length_drop] at hll
    refine ⟨a, p.length, val p, rfl, h1, hpos, h9, by omega, h4, ?_, ?_⟩
    · rw [← hfr]; exact hc
    · by_cases hk : p.length = 1
      · apply intAt_off
        right
        simp; omega
      · refine verdict_short _ a (p.length - 1) (by omega) (by simp; omega) (by simp; omega) (fun j hj => ?_)
        have hb := hhi j (by omega)
        rw [hfr, byteAt_take _ _ _ (by omega), byteAt_drop] at hb
        rw [byteAt_take _ _ _ (by omega)]
        exact hb
theorem done_out {l : List UInt8} {p e : Nat} (h : doneE l p e = 0) : e = 0 ∧ l.drop p = [] := by
  unfold doneE at h
  split at h
  · simp at h
  · rename_i hn
    exact ⟨h, List.drop_eq_nil_of_le (by omega)⟩

theorem rdN_canon {l : List UInt8} {p n p' : Nat} (h : rdN l (p, 0) = (n, (p', 0))) : l.drop p = numB n ++ l.drop p' := by
  have h0 : (intAt l (p : Int)).2.2 = 0 := by
    unfold rdN pk at h; simp at h; exact h.2.2
  obtain ⟨a, k, m, e1, e2, -, -, -, -, hnum, -⟩ := intAt_fronts l p h0
  obtain rfl : p = a := by omega
  unfold rdN pk at h
  simp only [if_true, e2, Prod.mk.injEq] at h
  obtain ⟨rfl, rfl, -⟩ := h
  rw [hnum, ← List.drop_drop, List.take_append_drop]
theorem rdB_canon {l t : List UInt8} {most : Int} {p p' : Nat} (h : rdB l most (p, 0) = (t, (p', 0))) : l.drop p = (numB t.length ++ t) ++ l.drop p' := by
  unfold rdB takeAt at h
  simp only at h
  by_cases h1 : (pk l p 0).2.2 = 0
  · rw [if_neg (by simp [h1])] at h
    by_cases h2 : max most 0 < ((pk l p 0).1 : Int)
    · rw [if_pos h2] at h; simp at h
    · rw [if_neg h2] at h
      by_cases h3 : l.length - (p + (pk l p 0).2.1) < (pk l p 0).1
      · rw [if_pos h3] at h; simp at h
      · rw [if_neg h3] at h
        simp only [Prod.mk.injEq] at h
        obtain ⟨ht, hp, -⟩ := h
        have hr : rdN l (p, 0) = ((pk l p 0).1, (p + (pk l p 0).2.1, 0)) := by unfold rdN; simp only [h1]
        have hc := rdN_canon hr
        have hl : t.length = (pk l p 0).1 := by rw [← ht]; simp; omega
        rw [hc, hl, ← hp, List.append_assoc]
        congr 1
        have e := List.take_append_drop (pk l p 0).1 (l.drop (p + (pk l p 0).2.1))
        rw [List.drop_drop, ht] at e
        exact e.symm
  · rw [if_pos h1] at h; simp at h; exact absurd h.2.2 h1


theorem pk_pos {l : Bs} {a e : Nat} (h : (pk l a e).2.2 = 0) : 1 ≤ (pk l a e).2.1 ∧ e = 0 := by
  unfold pk at h ⊢
  split at h
  · rename_i he
    rw [if_pos he]
    obtain ⟨a', k, n, _, e2, h1, _⟩ := intAt_fronts l _ h
    rw [e2]
    exact ⟨h1, he⟩
  · rename_i he; exact absurd h he
theorem mustF_ok {h : Bool} {c : Nat} {t : Ld} (hc : c ≠ 0) (ho : (mustF h c t).le = 0) : h = true ∧ mustF h c t = t := by
  unfold mustF at ho ⊢
  split at ho
  · exact absurd ho hc
  · rename_i h1
    rw [if_neg h1]
    refine ⟨?_, rfl⟩
    cases h
    · exact absurd ⟨rfl, ho⟩ h1
    · rfl
theorem lookF_ok {l : Bs} {a : Nat} {t : Ld} (hne : t.p = a → t.e ≠ 0) (ho : (lookF l a t).le = 0) : t.p ≠ a ∧ t.le = 0 ∧ lookF l a t = t := by
  unfold lookF at ho ⊢
  by_cases hp : t.p = a
  · exfalso
    rw [if_pos hp] at ho
    have he := hne hp
    have hd : doneE l t.p t.e = t.e := by unfold doneE; rw [if_neg (fun h => he h.1)]
    have := (mustF_ok (by rw [hd]; exact he) ho).1
    cases this
  · rw [if_neg hp] at ho ⊢
    exact ⟨hp, ho, rfl⟩
theorem numF_ok {l : Bs} {t : Ld} (ho : (numF l t).2.le = 0) : t.le = 0 ∧ (numF l t).2.e = 0 ∧ l.drop t.p = numB (numF l t).1 ++ l.drop (numF l t).2.p ∧ (numF l t).1 ≤ 4611686018427387904 := by
  have hn := numF_le l t
  unfold numF at ho hn ⊢
  dsimp only at ho hn ⊢
  obtain ⟨h1, h2, h3⟩ := lookF_ok (fun e h0 => by dsimp only at e h0; have := (pk_pos h0).1; omega) ho
  dsimp only at h1 h2
  rw [h3]
  dsimp only
  have h0 : (pk l t.p t.e).2.2 = 0 := by
    cases q : (pk l t.p t.e).2.2 with
    | zero => rfl
    | succ m => have := ((pk_bd l t.p t.e).2.2.2 (by omega)).2; omega
  have he := (pk_pos h0).2
  rw [he] at h0 ⊢
  refine ⟨h2, h0, ?_, by rw [he] at hn; exact hn⟩
  have := rdN_canon (l := l) (p := t.p) (n := (pk l t.p 0).1) (p' := t.p + (pk l t.p 0).2.1) (by unfold rdN; dsimp only; rw [h0])
  exact this
theorem takeAt_ok {l : Bs} {a e : Nat} {most : Int} (hm : 0 ≤ most) (h : (takeAt l a e most).2.2 = 0) : a < (takeAt l a e most).2.1 ∧ e = 0 ∧ ((takeAt l a e most).1.length : Int) ≤ most := by
  unfold takeAt at h ⊢
  by_cases h1 : (pk l a e).2.2 = 0
  · have hp := pk_pos h1
    rw [if_neg (by simp [h1])] at h ⊢
    by_cases h2 : max most 0 < ((pk l a e).1 : Int)
    · rw [if_pos h2] at h; simp at h
    · rw [if_neg h2] at h ⊢
      by_cases h3 : l.length - (a + (pk l a e).2.1) < (pk l a e).1
      · rw [if_pos h3] at h; simp at h
      · rw [if_neg h3]
        refine ⟨by dsimp only; omega, hp.2, ?_⟩
        have : ((l.drop (a + (pk l a e).2.1)).take (pk l a e).1).length ≤ (pk l a e).1 := by simp; omega
        dsimp only
        omega
  · rw [if_pos h1] at h; exact absurd h h1
theorem takeAt_no {l : Bs} {a e : Nat} {most : Int} (h : (takeAt l a e most).2.2 ≠ 0) : (takeAt l a e most).2.1 = a := by
  unfold takeAt at h ⊢
  split
  · rfl
  · rename_i h1
    rw [if_neg h1] at h
    split
    · rfl
    · rename_i h2
      rw [if_neg h2] at h
      split
      · rfl
      · rename_i h3
        rw [if_neg h3] at h
        exact absurd rfl h
theorem texF_ok {l : Bs} {most : Int} {t : Ld} (hm : 0 ≤ most) (ho : (texF l most t).2.le = 0) : t.le = 0 ∧ (texF l most t).2.e = 0 ∧ l.drop t.p = (numB (texF l most t).1.length ++ (texF l most t).1) ++ l.drop (texF l most t).2.p ∧ ((texF l most t).1.length : Int) ≤ most := by
  unfold texF at ho ⊢
  dsimp only at ho ⊢
  obtain ⟨h1, h2, h3⟩ := lookF_ok (fun e h0 => by dsimp only at e h0; have := (takeAt_ok hm h0).1; omega) ho
  dsimp only at h1 h2
  rw [h3]
  dsimp only
  have h0 : (takeAt l t.p t.e most).2.2 = 0 := by
    cases q : (takeAt l t.p t.e most).2.2 with
    | zero => rfl
    | succ m => exact absurd (takeAt_no (by omega)) h1
  have hk := takeAt_ok hm h0
  have he := hk.2.1
  rw [he] at h0 hk ⊢
  refine ⟨h2, h0, ?_, hk.2.2⟩
  exact rdB_canon (l := l) (p := t.p) (most := most) (t := (takeAt l t.p 0 most).1) (p' := (takeAt l t.p 0 most).2.1) (by unfold rdB; dsimp only; rw [h0])
theorem cntF_ok {l : Bs} {most : Nat} {t : Ld} (ho : (cntF l most t).2.le = 0) : t.le = 0 ∧ (cntF l most t).2.e = 0 ∧ l.drop t.p = numB (cntF l most t).1 ++ l.drop (cntF l most t).2.p ∧ (cntF l most t).1 ≤ most := by
  have hle := cntF_le l most t
  unfold cntF at ho hle ⊢
  dsimp only at ho hle ⊢
  obtain ⟨-, h2⟩ := mustF_ok (by decide) ho
  rw [h2] at ho hle ⊢
  rw [if_pos ho] at hle ⊢
  obtain ⟨k1, k2, k3, k4⟩ := numF_ok ho
  exact ⟨k1, k2, k3, hle⟩
theorem seqF_ok {l : Bs} {t : Ld} (ho : (seqF l t).2.le = 0) : t.le = 0 ∧ (seqF l t).2.e = 0 ∧ l.drop t.p = numB (seqF l t).1 ++ l.drop (seqF l t).2.p ∧ 1 ≤ (seqF l t).1 ∧ (seqF l t).1 ≤ 4611686018427387904 := by
  unfold seqF at ho ⊢
  dsimp only at ho ⊢
  obtain ⟨h1, h2⟩ := mustF_ok (by decide) ho
  rw [h2] at ho ⊢
  obtain ⟨k1, k2, k3, k4⟩ := numF_ok ho
  have h1' : 0 < (numF l t).1 := by simpa using h1
  exact ⟨k1, k2, k3, h1', k4⟩
theorem rplF_ok {l : Bs} {t : Ld} (ho : (rplF l t).2.le = 0) : t.le = 0 ∧ (rplF l t).2.e = 0 ∧ l.drop t.p = (numB (rplF l t).1.code.toNat ++ (numB (rplF l t).1.val.length ++ (rplF l t).1.val)) ++ l.drop (rplF l t).2.p ∧
    ((rplF l t).1.code = 1 ∨ (rplF l t).1.code = 2 ∨ (rplF l t).1.code = 3 ∨ (rplF l t).1.code = 5) ∧ (rplF l t).1.val.length ≤ 1024 ∧ ((rplF l t).1.code ≠ 3 → (rplF l t).1.val = []) := by
  unfold rplF at ho ⊢
  dsimp only at ho ⊢
  obtain ⟨h1, h2⟩ := mustF_ok (by decide) ho
  rw [h2] at ho ⊢
  obtain ⟨k1, k2, k3, k4⟩ := texF_ok (by decide) ho
  unfold rplF1 at k1 k3
  obtain ⟨m1, m2⟩ := mustF_ok (by decide) k1
  rw [m2] at k1 k3
  obtain ⟨n1, n2, n3, n4⟩ := numF_ok k1
  refine ⟨n1, k2, ?_, ?_, by omega, ?_⟩
  · rw [n3, k3]
    unfold rplF1
    rw [m2]
    simp only [Int.toNat_natCast, List.append_assoc]
  · simp only [keptB, Bool.or_eq_true, beq_iff_eq] at m1
    omega
  · intro hc
    have h1' : (texF l 1024 (rplF1 l t)).1 = [] ∨ (numF l t).1 = 3 := by simpa using h1
    rcases h1' with h | h
    · exact h
    · exact absurd (by rw [h]; rfl) hc

section
variable {α : Type} {κ : α → Lit}
theorem ins_last {x : α} : ∀ {xs : List α}, (∀ y ∈ xs, (κ y).before (κ x) = true) → insK κ x xs = xs ++ [x]
  | [], _ => rfl
  | y :: q, h => by
    unfold insK
    have hb := h y (by simp)
    rw [if_neg (fun e => by have := WideShapes.before_trans hb e; rw [WideShapes.before_irrefl] at this; cases this), ins_last (fun z hz => h z (by simp [hz]))]
    rfl
theorem put_last {x : α} {xs : List α} (h : ∀ y ∈ xs, (κ y).before (κ x) = true) : putK κ x xs = xs ++ [x] := by
  unfold putK
  have : delK κ (κ x) xs = xs := by
    unfold delK
    refine List.filter_eq_self.2 (fun y hy => ?_)
    have hb := h y hy
    have : (κ y).sameKey (κ x) = false := by
      cases q : (κ y).sameKey (κ x)
      · rfl
      · rw [WideAt.sameKey_eq q, WideShapes.before_irrefl] at hb; cases hb
    simp [this]
  rw [this]
  exact ins_last h
end
theorem not_before_nil (a : Bs) : bytesBefore a [] = false := by cases a <;> rfl

/-- All pairs, where there was no error. -/
theorem pairs_ok {l : Bs} {t1 : Ld} : ∀ (k : Nat), (itr (pairF l) k (([], []), t1)).2.le = 0 →
    t1.le = 0 ∧ (t1.e = 0 → (itr (pairF l) k (([], []), t1)).2.e = 0) ∧ l.drop t1.p = (itr (pairF l) k (([], []), t1)).1.2.flatMap txP ++ l.drop (itr (pairF l) k (([], []), t1)).2.p ∧
    (itr (pairF l) k (([], []), t1)).1.2.length = k ∧ (∀ p ∈ (itr (pairF l) k (([], []), t1)).1.2, PrOk p) ∧ (∀ p ∈ (itr (pairF l) k (([], []), t1)).1.2, p.1 = (itr (pairF l) k (([], []), t1)).1.1 ∨ bytesBefore p.1 (itr (pairF l) k (([], []), t1)).1.1 = true)
  | 0, h => ⟨h, id, by simp [itr], rfl, by simp [itr], by simp [itr]⟩
  | k + 1, h => by
    have ih := pairs_ok (l := l) (t1 := t1) k
    have e : itr (pairF l) (k + 1) (([], []), t1) = pairF l (itr (pairF l) k (([], []), t1)) := rfl
    rw [e] at h ⊢
    generalize itr (pairF l) k (([], []), t1) = x at *
    obtain ⟨⟨ah, ps⟩, tx⟩ := x
    unfold pairF at h ⊢
    dsimp only at h ih ⊢
    obtain ⟨a1, a2, a3, a4⟩ := texF_ok (by decide) h
    obtain ⟨b1, b2⟩ := mustF_ok (by decide) a1
    rw [b2] at a1 a2 a3 a4 h ⊢
    obtain ⟨c1, c2, c3, c4⟩ := texF_ok (by decide) a1
    obtain ⟨i1, i2, i3, i4, i5, i6⟩ := ih c1
    generalize texF l 64 tx = r at *
    obtain ⟨ky, ta⟩ := r
    dsimp only at *
    generalize texF l 1024 ta = r at *
    obtain ⟨vl, tb⟩ := r
    dsimp only at *
    have hbef : ∀ p ∈ ps, bytesBefore p.1 ky = true := fun p hp => by
      rcases i6 p hp with h6 | h6
      · rw [h6]; exact b1
      · exact WideShapes.bytes_trans _ _ _ h6 b1
    have hput : putK kP (ky, vl) ps = ps ++ [(ky, vl)] := put_last (κ := kP) hbef
    rw [hput]
    have hk0 : ky ≠ [] := fun e => by rw [e, not_before_nil] at b1; cases b1
    refine ⟨i1, fun _ => a2, ?_, by simp [i4], ?_, ?_⟩
    · rw [i3, c3, a3, List.flatMap_append]
      simp [txP]
    · intro p hp
      rcases List.mem_append.1 hp with hp | hp
      · exact i5 p hp
      · simp at hp; subst hp; exact ⟨⟨hk0, by dsimp only; omega⟩, by dsimp only; omega⟩
    · intro p hp
      rcases List.mem_append.1 hp with hp | hp
      · exact .inr (hbef p hp)
      · simp at hp; subst hp; exact .inl rfl
/-- All sessions, where there was no error. -/
theorem sess_ok {l : Bs} {t1 : Ld} : ∀ (k : Nat), (itr (sesF l) k ((0, []), t1)).2.le = 0 →
    t1.le = 0 ∧ (t1.e = 0 → (itr (sesF l) k ((0, []), t1)).2.e = 0) ∧ l.drop t1.p = (itr (sesF l) k ((0, []), t1)).1.2.flatMap txS ++ l.drop (itr (sesF l) k ((0, []), t1)).2.p ∧
    (itr (sesF l) k ((0, []), t1)).1.2.length = k ∧ (∀ s ∈ (itr (sesF l) k ((0, []), t1)).1.2, SeOk s) ∧ (∀ s ∈ (itr (sesF l) k ((0, []), t1)).1.2, s.cl ≤ ((itr (sesF l) k ((0, []), t1)).1.1 : Int)) := by
  intro k
  induction k with
  | zero => intro h; exact ⟨h, id, by simp [itr], by simp [itr], by simp [itr], by simp [itr]⟩
  | succ k ih =>
    intro h
    have e : itr (sesF l) (k + 1) ((0, []), t1) = sesF l (itr (sesF l) k ((0, []), t1)) := rfl
    rw [e] at h ⊢
    generalize itr (sesF l) k ((0, []), t1) = x at *
    obtain ⟨⟨ah, ss⟩, tx⟩ := x
    unfold sesF at h ⊢
    dsimp only at h ih ⊢
    obtain ⟨a1, a2, a3, a4, a5, a6⟩ := rplF_ok h
    obtain ⟨b1, b2, b3, b4, b5⟩ := seqF_ok a1
    obtain ⟨d1, d2⟩ := mustF_ok (by decide) b1
    rw [d2] at a1 a2 a3 a4 a5 a6 b1 b2 b3 b4 b5 h ⊢
    obtain ⟨c1, c2, c3, c4⟩ := numF_ok b1
    obtain ⟨i1, i2, i3, i4, i5, i6⟩ := ih c1
    generalize numF l tx = r at *
    obtain ⟨cl, ta⟩ := r
    dsimp only at *
    generalize seqF l ta = r at *
    obtain ⟨sq, tb⟩ := r
    dsimp only at *
    generalize rplF l tb = r at *
    obtain ⟨⟨rc, rv⟩, td⟩ := r
    dsimp only at *
    have d1' : ah < cl := by simpa using d1
    have hput : putK kS ⟨(cl : Int), (sq : Int), ⟨rc, rv⟩⟩ ss = ss ++ [⟨(cl : Int), (sq : Int), ⟨rc, rv⟩⟩] := put_last (κ := kS) (fun s hs => by
      have := i6 s hs
      simp [kS, Lit.before]; omega)
    rw [hput]
    refine ⟨i1, fun _ => a2, ?_, by simp [i4], ?_, ?_⟩
    · rw [i3, c3, b3, a3, List.flatMap_append]
      simp [txS]
    · intro s hs
      rcases List.mem_append.1 hs with hs | hs
      · exact i5 s hs
      · simp at hs; subst hs; exact ⟨⟨by dsimp only; omega, by dsimp only; omega⟩, ⟨by dsimp only; omega, by dsimp only; omega⟩, a4, a5, a6⟩
    · intro s hs
      rcases List.mem_append.1 hs with hs | hs
      · have := i6 s hs; omega
      · simp at hs; subst hs; exact Int.le_refl _

/-- What is restored of any bytes has them as its snapshot. -/
theorem rst_ok {l : Bs} (h : rstE l = 0) : (rstK l).Ok ∧ snapB (rstK l) = l := by
  unfold rstE donF at h
  by_cases h0 : (rst2 l).2.le = 0
  · rw [if_neg (by simpa using h0)] at h
    obtain ⟨he, hd⟩ := done_out h
    unfold rstK
    unfold rst2 at h0 hd ⊢
    unfold sssF at h0 hd ⊢
    obtain ⟨a1, a2, a3, a4, a5, a6⟩ := sess_ok _ h0
    obtain ⟨b1, b2, b3, b4⟩ := cntF_ok a1
    unfold prsF at b1 b3 b4 a4 a3 a5 hd h0 ⊢
    obtain ⟨c1, c2, c3, c4, c5, c6⟩ := pairs_ok _ b1
    obtain ⟨d1, d2, d3, d4⟩ := cntF_ok c1
    refine ⟨⟨by dsimp only; rw [c4]; exact d4, by dsimp only; rw [a4]; exact b4, c5, a5⟩, ?_⟩
    unfold snapB
    dsimp only
    rw [c4, a4]
    have e : l = l.drop 0 := rfl
    rw [hd, List.append_nil] at a3
    rw [a3] at b3
    rw [b3] at c3
    rw [c3] at d3
    simp only [List.drop_zero] at d3
    rw [List.append_assoc, List.append_assoc]
    exact d3.symm
  · rw [if_pos h0] at h; exact absurd h h0
end Go.Proofs.YtglhjgfaelfleaaGreat
