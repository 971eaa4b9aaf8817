/-
  Less is easier, plainly: without a read, without an open one that isn't used, with one that is open now, with a later answer, with one more that is open.
-/
import Derived.Test.YtbcnpdpdflkanaaPt
namespace Go.Proofs.Ytbcnpdpdflkanaa
open Go.RowKit

def D0 : Nat → Bool := fun _ => false
theorem check_iff {h : List Lo} : checkE h = true ↔ valid h = 0 ∧ ∀ k, ∃ p, Path (h.filter (isOf k)) D0 false [] p := by
  unfold checkE
  rw [Bool.and_eq_true, decide_eq_true_eq, judged_iff]
  refine and_congr_right fun _ => ⟨fun hall k => ?_, fun hall x hx hc => ?_⟩
  · cases hf : h.filter (isOf k) with
    | nil => exact ⟨[], rfl⟩
    | cons x r =>
      have hx : x ∈ h.filter (isOf k) := by rw [hf]; exact List.mem_cons_self
      obtain ⟨h1, h2⟩ := List.mem_filter.1 hx
      unfold isOf at h2
      simp only [Bool.and_eq_true, decide_eq_true_eq] at h2
      have := hall x h1 h2.2
      rw [h2.1, hf] at this
      exact (isL_some (expl_isL _)).1 this
  · exact (isL_some (expl_isL _)).2 (hall x.key)

/-! ### element by element -/
inductive All2 (R : Lo → Lo → Prop) : List Lo → List Lo → Prop
  | nil : All2 R [] []
  | cons {x y : Lo} {l m : List Lo} : R x y → All2 R l m → All2 R (x :: l) (y :: m)
theorem All2.len {R : Lo → Lo → Prop} {l m : List Lo} (h : All2 R l m) : m.length = l.length := by
  induction h with
  | nil => rfl
  | cons _ _ ih => simp [ih]
theorem All2.at {R : Lo → Lo → Prop} {l m : List Lo} (h : All2 R l m) : ∀ i, i < l.length → R (oat l i) (oat m i) := by
  induction h with
  | nil => intro i hi; simp at hi
  | cons hr _ ih =>
    intro i hi
    cases i with
    | zero => exact hr
    | succ i => exact ih i (by simpa using hi)
theorem All2.refl {R : Lo → Lo → Prop} (hr : ∀ x, R x x) : ∀ l, All2 R l l
  | [] => .nil
  | x :: l => .cons (hr x) (All2.refl hr l)
theorem All2.set {R : Lo → Lo → Prop} (hr : ∀ x, R x x) : ∀ (l : List Lo) (i : Nat) (y : Lo), (i < l.length → R (oat l i) y) → All2 R l (l.set i y)
  | [], _, _, _ => .nil
  | x :: l, 0, y, h => .cons (h (by simp)) (All2.refl hr l)
  | x :: l, i + 1, y, h => .cons (hr x) (All2.set hr l i y (fun hi => h (by simpa using hi)))
theorem All2.filter {R : Lo → Lo → Prop} {f : Lo → Bool} (hf : ∀ x y, R x y → f x = f y) {l m : List Lo} (h : All2 R l m) : All2 R (l.filter f) (m.filter f) := by
  induction h with
  | nil => exact .nil
  | cons hr _ ih =>
    rename_i x y l m _
    rw [List.filter_cons, List.filter_cons, ← hf _ _ hr]
    split
    · exact .cons hr ih
    · exact ih
theorem All2.mem {R : Lo → Lo → Prop} {l m : List Lo} (h : All2 R l m) : ∀ y ∈ m, ∃ x ∈ l, R x y := by
  induction h with
  | nil => intro y hy; cases hy
  | cons hr _ ih =>
    intro y hy
    rcases List.mem_cons.1 hy with rfl | hy
    · exact ⟨_, List.mem_cons_self, hr⟩
    · obtain ⟨x, hx, h1⟩ := ih y hy
      exact ⟨x, List.mem_cons_of_mem _ hx, h1⟩

/-- y asks no more than x. -/
structure Wk (x y : Lo) : Prop where
  key : y.key = x.key
  cnt : y.counts = x.counts
  snd : sound x = 0 → sound y = 0
  stp : ∀ th v, step th v y = step th v x
  call : y.call = x.call
  back : y.back = 0 ∨ (x.back ≠ 0 ∧ x.back ≤ y.back ∧ y.rp = x.rp)
theorem Wk.refl (x : Lo) : Wk x x := ⟨rfl, rfl, id, fun _ _ => rfl, rfl, by
  by_cases e : x.back = 0
  · exact .inl e
  · exact .inr ⟨e, Int.le_refl _, rfl⟩⟩
theorem Wk.isOf {x y : Lo} (h : Wk x y) (k : Bs) : isOf k x = isOf k y := by unfold Go.Proofs.Ytbcnpdpdflkanaa.isOf; rw [h.key, h.cnt]

theorem path_wk {ops ops' : List Lo} (h : All2 Wk ops ops') : ∀ (p : List Nat) (D : Nat → Bool) (th : Bool) (v : Bs), Path ops D th v p → Path ops' D th v p
  | [], D, th, v, hp => by
    show fineB ops' D = true
    have hp' : fineB ops D = true := hp
    unfold fineB at *
    rw [List.all_eq_true] at *
    intro k hk
    rw [List.mem_range, h.len] at hk
    have h1 := hp' k (List.mem_range.2 hk)
    simp only [Bool.or_eq_true, decide_eq_true_eq] at *
    rcases (h.at k hk).back with e | ⟨e, -, -⟩
    · exact .inl e
    · exact .inr (h1.resolve_left e)
  | i :: q, D, th, v, hp => by
    obtain ⟨hi, hn, hq⟩ := hp
    have hw := h.at i hi
    refine ⟨by rw [h.len]; exact hi, ?_, ?_⟩
    · unfold nextB mayB okB at *
      simp only [Bool.and_eq_true, List.all_eq_true, Bool.or_eq_true, decide_eq_true_eq, List.mem_range, h.len, Bool.not_eq_true'] at *
      refine ⟨⟨hn.1.1, fun k hk => ?_⟩, ?_⟩
      · have h1 := hn.1.2 k hk
        rw [hw.call]
        rcases (h.at k hk).back with e | ⟨e, e2, -⟩
        · exact .inl (.inl e)
        · rcases h1 with (h1 | h1) | h1
          · exact absurd h1 e
          · exact .inl (.inr (by omega))
          · exact .inr h1
      · rcases hw.back with e | ⟨e, -, e3⟩
        · exact .inl e
        · right
          rw [hw.stp, e3]
          exact hn.2.resolve_left e
    · rw [hw.stp]
      exact path_wk h q _ _ _ hq

theorem check_wk {h h' : List Lo} (hw : All2 Wk h h') (hc : checkE h = true) : checkE h' = true := by
  rw [check_iff] at *
  refine ⟨?_, fun k => ?_⟩
  · rw [valid_iff] at *
    refine ⟨by rw [hw.len]; exact hc.1.1, fun y hy => ?_, fun k => ?_⟩
    · obtain ⟨x, hx, h1⟩ := hw.mem y hy
      exact h1.snd (hc.1.2.1 x hx)
    · rw [(hw.filter (fun _ _ h => h.isOf k)).len]; exact hc.1.2.2 k
  · obtain ⟨p, hp⟩ := hc.2 k
    exact ⟨p, path_wk (hw.filter (fun _ _ h => h.isOf k)) p _ _ _ hp⟩

/-- An answered write turned into an open one. -/
def opened (x : Lo) : Lo := { x with back := 0, rp := ⟨0, []⟩ }
theorem wk_opened {x : Lo} (hk : x.kind ≠ 1) (hc : x.counts = true) : Wk x (opened x) := by
  refine ⟨rfl, ?_, fun hs => ?_, fun _ _ => rfl, rfl, .inl rfl⟩
  · rw [hc]; unfold Lo.counts opened; simpa using hk
  · unfold sound at *
    unfold opened
    dsimp only
    split at hs
    · cases hs
    rename_i h1
    rw [if_neg h1]
    split at hs
    · cases hs
    rename_i h2
    rw [if_neg h2]
    simp
/-- With a later answer. -/
def later (x : Lo) (b : Int) : Lo := { x with back := b }
theorem wk_later {x : Lo} {t : Int} (hb : x.back ≠ 0) (hs : sound x = 0) (ht : 0 ≤ t) : Wk x (later x (x.back + t)) := by
  have h0 : 1 ≤ x.call ∧ x.call ≤ x.back ∧ ¬ (x.kind < 1 ∨ 4 < x.kind) ∧ ¬ (x.rp.code < 1 ∨ 10 < x.rp.code) := by
    unfold sound at hs
    split at hs
    · cases hs
    rename_i h1
    split at hs
    · cases hs
    rename_i h2
    try rw [if_neg hb] at hs
    split at hs
    · cases hs
    rename_i h3
    split at hs
    · cases hs
    rename_i h4
    exact ⟨by omega, by omega, h1, h4⟩
  have hb2 : x.back + t ≠ 0 := by omega
  refine ⟨rfl, ?_, fun _ => ?_, fun _ _ => rfl, rfl, .inr ⟨hb, by show x.back ≤ x.back + t; omega, rfl⟩⟩
  · unfold Lo.counts later; dsimp only; rw [if_neg hb, if_neg hb2]
  · unfold sound later
    dsimp only
    rw [if_neg h0.2.2.1, if_neg (by omega), if_neg hb2, if_neg (by omega), if_neg h0.2.2.2]

theorem check_open {h : List Lo} {i : Nat} (hc : checkE h = true) (hk : (oat h i).kind ≠ 1) (ho : (oat h i).counts = true) : checkE (h.set i (opened (oat h i))) = true :=
  check_wk (All2.set Wk.refl h i _ (fun _ => wk_opened hk ho)) hc
theorem check_later {h : List Lo} {i : Nat} {t : Int} (hc : checkE h = true) (hi : i < h.length) (hb : (oat h i).back ≠ 0) (ht : 0 ≤ t) : checkE (h.set i (later (oat h i) ((oat h i).back + t))) = true :=
  check_wk (All2.set Wk.refl h i _ (fun _ => wk_later hb ((valid_iff.1 (check_iff.1 hc).1).2.1 _ (oat_mem hi)) ht)) hc

/-! ### one more -/
theorem oat_app1 {l : List Lo} {m : Lo} {i : Nat} (hi : i < l.length) : oat (l ++ [m]) i = oat l i := by
  unfold oat; rw [List.getElem?_append_left hi]
theorem oat_app2 {l : List Lo} {m : Lo} : oat (l ++ [m]) l.length = m := by
  unfold oat; simp
theorem path_more {ops : List Lo} {m : Lo} (hm : m.back = 0) : ∀ (p : List Nat) (D : Nat → Bool) (th : Bool) (v : Bs), Path ops D th v p → Path (ops ++ [m]) D th v p
  | [], D, th, v, hp => by
    show fineB _ D = true
    have hp' : fineB ops D = true := hp
    unfold fineB at *
    rw [List.all_eq_true] at *
    intro k hk
    have hk' : k < ops.length + 1 := by simpa using hk
    by_cases e : k = ops.length
    · subst e; rw [oat_app2]; simp [hm]
    · rw [oat_app1 (by omega)]; exact hp' k (List.mem_range.2 (by omega))
  | i :: q, D, th, v, hp => by
    obtain ⟨hi, hn, hq⟩ := hp
    refine ⟨by simp; omega, ?_, ?_⟩
    · unfold nextB mayB okB at *
      rw [oat_app1 hi]
      simp only [Bool.and_eq_true, List.all_eq_true, List.mem_range, List.length_append, List.length_cons, List.length_nil] at *
      refine ⟨⟨hn.1.1, fun k hk => ?_⟩, hn.2⟩
      by_cases e : k = ops.length
      · subst e; rw [oat_app2]; simp [hm]
      · rw [oat_app1 (by omega)]; exact hn.1.2 k (by omega)
    · rw [oat_app1 hi]
      exact path_more hm q _ _ _ hq
theorem check_more {h : List Lo} {m : Lo} (hc : checkE h = true) (hm : m.back = 0) (hv : valid (h ++ [m]) = 0) : checkE (h ++ [m]) = true := by
  rw [check_iff] at *
  refine ⟨hv, fun k => ?_⟩
  obtain ⟨p, hp⟩ := hc.2 k
  rw [List.filter_append]
  by_cases e : isOf k m = true
  · exact ⟨p, by rw [show [m].filter (isOf k) = [m] by simp [e]]; exact path_more hm p _ _ _ hp⟩
  · exact ⟨p, by rw [show [m].filter (isOf k) = [] by simp [e], List.append_nil]; exact hp⟩

/-! ### one less -/
/-- The number behind the one that is gone. -/
def rN (j i : Nat) : Nat := if i < j then i else i - 1
def sN (j k : Nat) : Nat := if k < j then k else k + 1
theorem oat_less {A B : List Lo} {x : Lo} {k : Nat} (_hk : k < (A ++ B).length) : oat (A ++ B) k = oat (A ++ x :: B) (sN A.length k) := by
  unfold oat sN
  split
  · rename_i h; rw [List.getElem?_append_left h, List.getElem?_append_left h]
  · rename_i h
    rw [List.getElem?_append_right (by omega), List.getElem?_append_right (by omega), show k + 1 - A.length = (k - A.length) + 1 by omega]
    rfl
theorem norm_step {th : Bool} {v : Bs} {x : Lo} : (step th v x).1 = false → (step th v x).2.1 = [] := by
  unfold step
  split
  · split <;> simp
  split
  · simp
  split
  · simp
  split
  · split
    · split <;> simp
    · simp
  · intro h; dsimp only at *; rw [h]; simp
theorem get_step {th : Bool} {v : Bs} {x : Lo} (hk : x.kind = 1) (hn : th = false → v = []) : (step th v x).1 = th ∧ (step th v x).2.1 = v := by
  unfold step
  rw [if_pos hk]
  cases th
  · simp [hn rfl]
  · simp
theorem path_less {A B : List Lo} {x : Lo} : ∀ (p : List Nat) (D D' : Nat → Bool) (th : Bool) (v : Bs), (x.kind = 1 ∨ A.length ∉ p) → (th = false → v = []) → (∀ k, k < (A ++ B).length → D' k = D (sN A.length k)) →
    Path (A ++ x :: B) D th v p → ∃ q, Path (A ++ B) D' th v q
  | [], D, D', th, v, _, _, hD, hp => by
    refine ⟨[], ?_⟩
    show fineB _ D' = true
    have hp' : fineB (A ++ x :: B) D = true := hp
    unfold fineB at *
    rw [List.all_eq_true] at *
    intro k hk
    have hk' := List.mem_range.1 hk
    rw [hD k hk', oat_less (x := x) hk']
    refine hp' _ (List.mem_range.2 ?_)
    unfold sN
    simp at hk' ⊢
    split <;> omega
  | i :: q, D, D', th, v, hj, hn, hD, hp => by
    obtain ⟨hi, hx, hq⟩ := hp
    have hsl : ∀ k, k < (A ++ B).length → sN A.length k < (A ++ x :: B).length := fun k hk => by
      unfold sN
      simp at hk ⊢
      split <;> omega
    by_cases e : i = A.length
    · have hk1 : x.kind = 1 := hj.resolve_right (fun h => h (by rw [e]; exact List.mem_cons_self))
      have ho : oat (A ++ x :: B) i = x := by rw [e]; unfold oat; simp
      rw [ho] at hq
      obtain ⟨g1, g2⟩ := get_step (th := th) (v := v) hk1 hn
      rw [g1, g2] at hq
      refine path_less q (upd D i) D' th v (.inl hk1) hn (fun k hk => ?_) hq
      rw [hD k hk]
      unfold upd
      have : sN A.length k ≠ i := by unfold sN; split <;> omega
      simp [this]
    · have hr : sN A.length (rN A.length i) = i := by unfold sN rN; by_cases e1 : i < A.length <;> by_cases e4 : i - 1 < A.length <;> simp [e1, e4] <;> omega
      have hrl : rN A.length i < (A ++ B).length := by
        unfold rN
        simp at hi ⊢
        split <;> omega
      have ho : oat (A ++ B) (rN A.length i) = oat (A ++ x :: B) i := by rw [oat_less (x := x) hrl, hr]
      obtain ⟨q', hq'⟩ := path_less q (upd D i) (upd D' (rN A.length i)) _ _ (hj.imp id (fun h hm => h (List.mem_cons_of_mem _ hm))) (norm_step (th := th) (v := v) (x := oat (A ++ x :: B) i)) (fun k hk => by
        unfold upd
        rw [hD k hk]
        congr 1
        by_cases e2 : k = rN A.length i
        · subst e2; rw [hr]; simp
        · have : ¬ sN A.length k = i := fun e3 => e2 (by rw [← e3]; unfold sN rN; by_cases e1 : k < A.length <;> by_cases e4 : k + 1 < A.length <;> simp [e1, e4] <;> omega)
          simp [e2, this]) hq
      refine ⟨rN A.length i :: q', hrl, ?_, by rw [ho]; exact hq'⟩
      unfold nextB mayB okB at *
      rw [ho, hD _ hrl, hr]
      simp only [Bool.and_eq_true, List.all_eq_true, List.mem_range] at *
      refine ⟨⟨hx.1.1, fun k hk => ?_⟩, hx.2⟩
      rw [oat_less (x := x) hk, hD k hk]
      exact hx.1.2 _ (hsl k hk)

theorem split_at {h : List Lo} {i : Nat} (hi : i < h.length) : h = h.take i ++ oat h i :: h.drop (i + 1) := by
  have : oat h i = h[i] := by unfold oat; rw [List.getElem?_eq_getElem hi]; rfl
  rw [this, ← List.drop_eq_getElem_cons hi, List.take_append_drop]
/-- Where the i-th operation stands among those of its key. -/
theorem nums_place {h : List Lo} {k : Bs} {i : Nat} (hi : i < h.length) (hm : isOf k (oat h i) = true) : (nums h k)[((h.take i).filter (isOf k)).length]? = some i := by
  have h1 : List.range h.length = List.range i ++ i :: (List.range h.length).drop (i + 1) := by
    have := List.take_append_drop i (List.range h.length)
    rw [List.take_range, Nat.min_eq_left (by omega), List.drop_eq_getElem_cons (by simpa using hi)] at this
    simpa using this.symm
  have h2 : ((h.take i).filter (isOf k)).length = ((List.range i).filter (mine h k)).length := by
    have e : (h.take i) = (List.range i).map (oat h) := by
      apply List.ext_getElem (by simp; omega)
      intro j h1 h2
      simp at h1 h2
      simp [oat, List.getElem?_eq_getElem (show j < h.length by omega)]
    rw [e, List.filter_map, List.length_map]
    rfl
  unfold nums
  rw [h1, List.filter_append, List.filter_cons, if_pos (by exact hm), h2]
  simp

theorem check_less {h : List Lo} {i : Nat} (hi : i < h.length) (hc : checkE h = true) (hw : (oat h i).kind = 1 ∨ ((oat h i).back = 0 ∧ ∀ l, explain h (oat h i).key = some l → i ∉ l)) : checkE (h.take i ++ h.drop (i + 1)) = true := by
  have hsp := split_at hi
  have hc' := hc
  rw [check_iff] at *
  have hv := hc.1
  refine ⟨?_, fun k => ?_⟩
  · rw [valid_iff] at *
    have hsub : (h.take i ++ h.drop (i + 1)).Sublist h := by
      conv => rhs; rw [hsp]
      exact (List.Sublist.refl _).append (List.sublist_cons_self _ _)
    exact ⟨Nat.le_trans hsub.length_le hc.1.1, fun x hx => hc.1.2.1 x (hsub.subset hx), fun k => Nat.le_trans (hsub.filter _).length_le (hc.1.2.2 k)⟩
  · have hf : h.filter (isOf k) = (h.take i).filter (isOf k) ++ (if isOf k (oat h i) then oat h i :: (h.drop (i + 1)).filter (isOf k) else (h.drop (i + 1)).filter (isOf k)) := by
      conv => lhs; rw [hsp]
      rw [List.filter_append, List.filter_cons]
    rw [List.filter_append]
    by_cases e : isOf k (oat h i) = true
    · rw [if_pos e] at hf
      have hkk : (oat h i).key = k ∧ (oat h i).counts = true := by unfold isOf at e; simpa using e
      rcases hw with hw | ⟨hb, hw⟩
      · obtain ⟨p, hp⟩ := hc.2 k
        rw [hf] at hp
        exact path_less p D0 D0 _ _ (.inl hw) (fun _ => rfl) (fun _ _ => rfl) hp
      · have hex : (expl (h.filter (isOf k))).isSome = true := (isL_some (expl_isL _)).2 (hc.2 k)
        have hI := expl_isL (h.filter (isOf k))
        cases he : expl (h.filter (isOf k)) with
        | none => rw [he] at hex; cases hex
        | some p =>
          rw [he] at hI
          have hnp : ((h.take i).filter (isOf k)).length ∉ p := fun hmem => by
            have h1 : explain h (oat h i).key = some (p.map fun j => (nums h k)[j]?.getD 0) := by
              unfold explain
              rw [hkk.1, opsOf_filter, he]; rfl
            refine hw _ h1 (List.mem_map.2 ⟨_, hmem, ?_⟩)
            rw [nums_place hi e]; rfl
          have hp := hI.path
          rw [hf] at hp
          exact path_less p D0 D0 _ _ (.inr hnp) (fun _ => rfl) (fun _ _ => rfl) hp
    · rw [if_neg e] at hf
      obtain ⟨p, hp⟩ := hc.2 k
      rw [hf] at hp
      exact ⟨p, hp⟩
end Go.Proofs.Ytbcnpdpdflkanaa
