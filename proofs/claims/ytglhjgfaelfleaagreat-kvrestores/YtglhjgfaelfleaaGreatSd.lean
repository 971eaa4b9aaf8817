/-
  What the document restores, plainly; and that the code's loader answers the same.
-/
import Derived.Test.YtglhjgfaelfleaaGreatRd
namespace Go.Proofs.YtglhjgfaelfleaaGreat
open Go.RowKit
set_option linter.unusedVariables false

def frmD (h : Bool) (c : Nat) (s : Nat × Nat) : Nat × Nat := if h = false ∧ s.2 = 0 then (s.1, c) else s
def cntD (l : Bs) (most : Nat) (s : Nat × Nat) : Nat × (Nat × Nat) := ((rdN l s).1, frmD (decide ((rdN l s).1 ≤ most)) 23 (rdN l s).2)
def pairD (l : Bs) (x : List (Bs × Bs) × (Nat × Nat)) : List (Bs × Bs) × (Nat × Nat) :=
  let r := rdB l 64 x.2
  let q := rdB l 1024 (frmD (bytesBefore (lastK x.1) r.1) 4 r.2)
  (x.1 ++ [(r.1, q.1)], q.2)
def sesD (l : Bs) (x : List Se × (Nat × Nat)) : List Se × (Nat × Nat) :=
  let r := rdN l x.2
  let q := rdN l (frmD (decide (lastC x.1 < r.1)) 4 r.2)
  let c := rdN l (frmD (decide (0 < q.1)) 4 q.2)
  let v := rdB l 1024 (frmD (keptB c.1) 4 c.2)
  (x.1 ++ [⟨(r.1 : Int), (q.1 : Int), ⟨(c.1 : Int), v.1⟩⟩], frmD (decide (v.1 = [] ∨ c.1 = 3)) 4 v.2)
/-- At most k times, while there is no error. -/
def whl {α : Type} (f : α × (Nat × Nat) → α × (Nat × Nat)) : Nat → α × (Nat × Nat) → α × (Nat × Nat)
  | 0, x => x
  | k + 1, x => if x.2.2 = 0 then whl f k (f x) else x
def docP (l : Bs) : List (Bs × Bs) × (Nat × Nat) := whl (pairD l) (cntD l 128 (0, 0)).1 ([], (cntD l 128 (0, 0)).2)
def docS (l : Bs) : List Se × (Nat × Nat) := whl (sesD l) (cntD l 32 (docP l).2).1 ([], (cntD l 32 (docP l).2).2)
def docE (l : Bs) : Nat := doneE l (docS l).2.1 (docS l).2.2
def docK (l : Bs) : KV := ⟨(docP l).1, (docS l).1⟩

/-- The code's loader stands as the document's reader does: no error and one place, or one error. -/
def Sim (t : Ld) (s : Nat × Nat) : Prop := (t.le = 0 ∧ t.e = 0 ∧ s = (t.p, 0)) ∨ (t.le ≠ 0 ∧ s.2 = t.le)
theorem Sim.err {t : Ld} {s : Nat × Nat} (h : Sim t s) : s.2 = t.le := by
  rcases h with ⟨h1, _, rfl⟩ | ⟨_, h2⟩
  · rw [h1]
  · exact h2

theorem mustF_le {h : Bool} {c : Nat} {t : Ld} (hl : t.le ≠ 0) : (mustF h c t).le = t.le := by
  unfold mustF; rw [if_neg (fun e => hl e.2)]
theorem lookF_le {l : Bs} {a : Nat} {t : Ld} (hl : t.le ≠ 0) : (lookF l a t).le = t.le := by
  unfold lookF; split
  · exact mustF_le hl
  · rfl
theorem numF_lf {l : Bs} {t : Ld} (hl : t.le ≠ 0) : (numF l t).2.le = t.le := by unfold numF; exact lookF_le (t := ⟨_, _, t.le⟩) hl
theorem texF_lf {l : Bs} {m : Int} {t : Ld} (hl : t.le ≠ 0) : (texF l m t).2.le = t.le := by unfold texF; exact lookF_le (t := ⟨_, _, t.le⟩) hl
theorem pk_err {l : Bs} {a e : Nat} (h : e ≠ 0) : pk l a e = (0, 0, e) := by simp [pk, h]
theorem rdN_err {l : Bs} {s : Nat × Nat} (h : s.2 ≠ 0) : (rdN l s).2 = s := by unfold rdN; rw [pk_err h]; rfl
theorem takeAt_err {l : Bs} {a e : Nat} {m : Int} (h : e ≠ 0) : takeAt l a e m = ([], a, e) := by
  unfold takeAt; rw [pk_err h]; simp [h]
theorem rdB_err {l : Bs} {m : Int} {s : Nat × Nat} (h : s.2 ≠ 0) : (rdB l m s).2 = s := by unfold rdB; rw [takeAt_err h]
theorem frmD_err {h : Bool} {c : Nat} {s : Nat × Nat} (hs : s.2 ≠ 0) : frmD h c s = s := by unfold frmD; rw [if_neg (fun e => hs e.2)]

theorem sim_look {l : Bs} {p p' e' : Nat} (h0 : e' = 0 → p' ≠ p) (h1 : e' ≠ 0 → p' = p) : Sim (lookF l p ⟨p', e', 0⟩) (p', e') := by
  unfold lookF
  by_cases he : e' = 0
  · subst he
    rw [if_neg (by exact h0 rfl)]
    exact .inl ⟨rfl, rfl, rfl⟩
  · rw [if_pos (by exact h1 he)]
    have hd : doneE l p' e' = e' := by unfold doneE; rw [if_neg (fun h => he h.1)]
    dsimp only
    rw [hd]
    unfold mustF
    rw [if_pos ⟨rfl, rfl⟩]
    exact .inr ⟨he, rfl⟩
theorem sim_num {l : Bs} {t : Ld} {s : Nat × Nat} (h : Sim t s) : Sim (numF l t).2 (rdN l s).2 ∧ (t.le = 0 → (rdN l s).1 = (numF l t).1) := by
  rcases h with ⟨h1, h2, rfl⟩ | ⟨h1, h2⟩
  · obtain ⟨p, e, le⟩ := t
    dsimp only at h1 h2
    subst h1 h2
    refine ⟨?_, fun _ => rfl⟩
    refine sim_look (fun h => ?_) (fun h => ?_)
    · have := (pk_pos h).1; dsimp only at this ⊢; omega
    · have := ((pk_bd l p 0).2.2.2 h).2; dsimp only at this ⊢; omega
  · have hs : s.2 ≠ 0 := by rw [h2]; exact h1
    refine ⟨.inr ?_, fun h => absurd h h1⟩
    rw [numF_lf h1, rdN_err hs]
    exact ⟨h1, h2⟩
theorem sim_tex {l : Bs} {m : Int} {t : Ld} {s : Nat × Nat} (hm : 0 ≤ m) (h : Sim t s) : Sim (texF l m t).2 (rdB l m s).2 ∧ (t.le = 0 → (rdB l m s).1 = (texF l m t).1) := by
  rcases h with ⟨h1, h2, rfl⟩ | ⟨h1, h2⟩
  · obtain ⟨p, e, le⟩ := t
    dsimp only at h1 h2
    subst h1 h2
    refine ⟨?_, fun _ => rfl⟩
    refine sim_look (fun h => ?_) (fun h => takeAt_no h)
    have := (takeAt_ok hm h).1; dsimp only at this ⊢; omega
  · have hs : s.2 ≠ 0 := by rw [h2]; exact h1
    refine ⟨.inr ?_, fun h => absurd h h1⟩
    rw [texF_lf h1, rdB_err hs]
    exact ⟨h1, h2⟩
theorem sim_must {h h' : Bool} {c : Nat} {t : Ld} {s : Nat × Nat} (hc : c ≠ 0) (hs : Sim t s) (hh : t.le = 0 → h' = h) : Sim (mustF h c t) (frmD h' c s) := by
  rcases hs with ⟨h1, h2, rfl⟩ | ⟨h1, h2⟩
  · rw [hh h1]
    unfold mustF frmD
    dsimp only
    cases h
    · rw [if_pos ⟨rfl, h1⟩, if_pos ⟨rfl, rfl⟩]; exact .inr ⟨hc, rfl⟩
    · rw [if_neg (by simp), if_neg (by simp)]; exact .inl ⟨h1, h2, rfl⟩
  · rw [frmD_err (by rw [h2]; exact h1)]
    exact .inr ⟨by rw [mustF_le h1]; exact h1, by rw [mustF_le h1]; exact h2⟩
theorem sim_cnt {l : Bs} {most : Nat} {t : Ld} {s : Nat × Nat} (h : Sim t s) : Sim (cntF l most t).2 (cntD l most s).2 ∧ ((cntF l most t).2.le = 0 → (cntD l most s).1 = (cntF l most t).1) := by
  obtain ⟨h1, h2⟩ := sim_num (l := l) h
  have hle : (numF l t).2.le = 0 → t.le = 0 := fun h => (numF_ok h).1
  refine ⟨sim_must (by decide) h1 (fun h => by rw [h2 (hle h)]), fun h => ?_⟩
  have e := h
  unfold cntF at e ⊢
  dsimp only at e ⊢
  rw [if_pos e]
  exact h2 (hle (by have := (mustF_ok (by decide) e).2; rw [this] at e; exact e))

theorem itr_front {α : Type} (f : α → α) : ∀ (k : Nat) (x : α), itr f (k + 1) x = itr f k (f x)
  | 0, _ => rfl
  | k + 1, x => by show f (itr f (k + 1) x) = f (itr f k (f x)); rw [itr_front f k x]
theorem whl_stop {α : Type} {f : α × (Nat × Nat) → α × (Nat × Nat)} {x : α × (Nat × Nat)} (h : x.2.2 ≠ 0) : ∀ k, whl f k x = x
  | 0 => rfl
  | k + 1 => by unfold whl; rw [if_neg h]

theorem pairF_lf {l : Bs} {x : (Bs × List (Bs × Bs)) × Ld} (h : x.2.le ≠ 0) : (pairF l x).2.le = x.2.le := by
  unfold pairF
  dsimp only
  have h1 := texF_lf (l := l) (m := 64) h
  have h2 := mustF_le (h := bytesBefore x.1.1 (texF l 64 x.2).1) (c := 4) (t := (texF l 64 x.2).2) (by rw [h1]; exact h)
  rw [texF_lf (by rw [h2, h1]; exact h), h2, h1]
theorem itr_pairs_lf {l : Bs} : ∀ (k : Nat) {x : (Bs × List (Bs × Bs)) × Ld}, x.2.le ≠ 0 → (itr (pairF l) k x).2.le = x.2.le
  | 0, _, _ => rfl
  | k + 1, x, h => by
    show (pairF l (itr (pairF l) k x)).2.le = x.2.le
    have := itr_pairs_lf (l := l) k h
    rw [pairF_lf (by rw [this]; exact h), this]
theorem sesF_lf {l : Bs} {x : (Nat × List Se) × Ld} (h : x.2.le ≠ 0) : (sesF l x).2.le = x.2.le := by
  unfold sesF seqF rplF rplF1
  dsimp only
  have h1 := numF_lf (l := l) h
  generalize numF l x.2 = a1 at *
  have h2 := mustF_le (h := decide (x.1.1 < a1.1)) (c := 4) (t := a1.2) (by rw [h1]; exact h)
  generalize mustF (decide (x.1.1 < a1.1)) 4 a1.2 = a2 at *
  have h3 := numF_lf (l := l) (t := a2) (by rw [h2, h1]; exact h)
  generalize numF l a2 = a3 at *
  have h4 := mustF_le (h := decide (0 < a3.1)) (c := 4) (t := a3.2) (by rw [h3, h2, h1]; exact h)
  generalize mustF (decide (0 < a3.1)) 4 a3.2 = a4 at *
  have h5 := numF_lf (l := l) (t := a4) (by rw [h4, h3, h2, h1]; exact h)
  generalize numF l a4 = a5 at *
  have h6 := mustF_le (h := keptB a5.1) (c := 4) (t := a5.2) (by rw [h5, h4, h3, h2, h1]; exact h)
  generalize mustF (keptB a5.1) 4 a5.2 = a6 at *
  have h7 := texF_lf (l := l) (m := 1024) (t := a6) (by rw [h6, h5, h4, h3, h2, h1]; exact h)
  rw [mustF_le (by rw [h7, h6, h5, h4, h3, h2, h1]; exact h), h7, h6, h5, h4, h3, h2, h1]
theorem itr_sess_lf {l : Bs} : ∀ (k : Nat) {x : (Nat × List Se) × Ld}, x.2.le ≠ 0 → (itr (sesF l) k x).2.le = x.2.le
  | 0, _, _ => rfl
  | k + 1, x, h => by
    show (sesF l (itr (sesF l) k x)).2.le = x.2.le
    have := itr_sess_lf (l := l) k h
    rw [sesF_lf (by rw [this]; exact h), this]

/-- What holds between rounds over the pairs. -/
structure PR (x : (Bs × List (Bs × Bs)) × Ld) (y : List (Bs × Bs) × (Nat × Nat)) : Prop where
  sim : Sim x.2 y.2
  same : x.2.le = 0 → x.1.2 = y.1 ∧ x.1.1 = lastK y.1 ∧ ∀ p ∈ y.1, p.1 = lastK y.1 ∨ bytesBefore p.1 (lastK y.1) = true
theorem PR.step {l : Bs} {x : (Bs × List (Bs × Bs)) × Ld} {y : List (Bs × Bs) × (Nat × Nat)} (h : PR x y) : PR (pairF l x) (pairD l y) := by
  obtain ⟨⟨ah, ps⟩, t⟩ := x
  obtain ⟨qs, s⟩ := y
  obtain ⟨hs, hq⟩ := h
  dsimp only at hs hq
  unfold pairF pairD
  dsimp only
  obtain ⟨a1, a2⟩ := sim_tex (l := l) (m := 64) (by decide) hs
  have l1 : (texF l 64 t).2.le = 0 → t.le = 0 := fun h => (texF_ok (by decide) h).1
  generalize texF l 64 t = r at *
  obtain ⟨k, t1⟩ := r
  generalize rdB l 64 s = r' at *
  obtain ⟨k', s1⟩ := r'
  dsimp only at a1 a2 l1 ⊢
  have b1 := sim_must (h := bytesBefore ah k) (h' := bytesBefore (lastK qs) k') (c := 4) (by decide) a1 (fun h => by rw [a2 (l1 h), (hq (l1 h)).2.1])
  have l2 : (mustF (bytesBefore ah k) 4 t1).le = 0 → bytesBefore ah k = true ∧ t1.le = 0 := fun h => by
    have := mustF_ok (by decide) h
    exact ⟨this.1, by rw [this.2] at h; exact h⟩
  generalize mustF (bytesBefore ah k) 4 t1 = t2 at *
  generalize frmD (bytesBefore (lastK qs) k') 4 s1 = s2 at *
  obtain ⟨c1, c2⟩ := sim_tex (l := l) (m := 1024) (by decide) b1
  have l3 : (texF l 1024 t2).2.le = 0 → t2.le = 0 := fun h => (texF_ok (by decide) h).1
  generalize texF l 1024 t2 = r at *
  obtain ⟨v, t3⟩ := r
  generalize rdB l 1024 s2 = r' at *
  obtain ⟨v', s3⟩ := r'
  dsimp only at c1 c2 l3 ⊢
  refine ⟨c1, fun h => ?_⟩
  dsimp only at h ⊢
  obtain ⟨m1, m2⟩ := l2 (l3 h)
  have m3 := l1 m2
  obtain ⟨q1, q2, q3⟩ := hq m3
  subst q1 q2
  rw [a2 m3, c2 (l3 h), lastK_snoc]
  have hbef : ∀ p ∈ ps, bytesBefore p.1 k = true := fun p hp => by
    rcases q3 p hp with h6 | h6
    · rw [h6]; exact m1
    · exact WideShapes.bytes_trans _ _ _ h6 m1
  refine ⟨put_last (κ := kP) hbef, rfl, fun p hp => ?_⟩
  rcases List.mem_append.1 hp with hp | hp
  · exact .inr (hbef p hp)
  · simp at hp; subst hp; exact .inl rfl
theorem PR.loop {l : Bs} : ∀ (k : Nat) {x : (Bs × List (Bs × Bs)) × Ld} {y : List (Bs × Bs) × (Nat × Nat)}, PR x y → PR (itr (pairF l) k x) (whl (pairD l) k y)
  | 0, _, _, h => h
  | k + 1, x, y, h => by
    by_cases he : x.2.le = 0
    · have hy : y.2.2 = 0 := by rw [h.sim.err]; exact he
      rw [itr_front]
      unfold whl
      rw [if_pos hy]
      exact PR.loop k h.step
    · have hy : y.2.2 ≠ 0 := by rw [h.sim.err]; exact he
      rw [whl_stop hy]
      have e := itr_pairs_lf (l := l) (k + 1) he
      exact ⟨.inr ⟨by rw [e]; exact he, by rw [e]; exact h.sim.err⟩, fun h0 => absurd (e ▸ h0) he⟩

/-- What holds between rounds over the sessions. -/
structure SR (x : (Nat × List Se) × Ld) (y : List Se × (Nat × Nat)) : Prop where
  sim : Sim x.2 y.2
  same : x.2.le = 0 → x.1.2 = y.1 ∧ x.1.1 = lastC y.1 ∧ ∀ p ∈ y.1, p.cl ≤ (lastC y.1 : Int)
theorem SR.step {l : Bs} {x : (Nat × List Se) × Ld} {y : List Se × (Nat × Nat)} (h : SR x y) : SR (sesF l x) (sesD l y) := by
  obtain ⟨⟨ah, ps⟩, t⟩ := x
  obtain ⟨qs, s⟩ := y
  obtain ⟨hs, hq⟩ := h
  dsimp only at hs hq
  unfold sesF seqF rplF rplF1 sesD
  dsimp only
  obtain ⟨a1, a2⟩ := sim_num (l := l) hs
  have l1 : (numF l t).2.le = 0 → t.le = 0 := fun h => (numF_ok h).1
  generalize numF l t = r at *
  obtain ⟨k, t1⟩ := r
  generalize rdN l s = r' at *
  obtain ⟨k', s1⟩ := r'
  dsimp only at a1 a2 l1 ⊢
  have b1 := sim_must (h := decide (ah < k)) (h' := decide (lastC qs < k')) (c := 4) (by decide) a1 (fun h => by rw [a2 (l1 h), (hq (l1 h)).2.1])
  have l2 : (mustF (decide (ah < k)) 4 t1).le = 0 → decide (ah < k) = true ∧ t1.le = 0 := fun h => by
    have := mustF_ok (by decide) h
    exact ⟨this.1, by rw [this.2] at h; exact h⟩
  generalize mustF (decide (ah < k)) 4 t1 = t2 at *
  generalize frmD (decide (lastC qs < k')) 4 s1 = s2 at *
  obtain ⟨c1, c2⟩ := sim_num (l := l) b1
  have l3 : (numF l t2).2.le = 0 → t2.le = 0 := fun h => (numF_ok h).1
  generalize numF l t2 = r at *
  obtain ⟨q, t3⟩ := r
  generalize rdN l s2 = r' at *
  obtain ⟨q', s3⟩ := r'
  dsimp only at c1 c2 l3 ⊢
  have d1 := sim_must (h := decide (0 < q)) (h' := decide (0 < q')) (c := 4) (by decide) c1 (fun h => by rw [c2 (l3 h)])
  have l4 : (mustF (decide (0 < q)) 4 t3).le = 0 → t3.le = 0 := fun h => by
    have := mustF_ok (by decide) h
    rw [this.2] at h; exact h
  generalize mustF (decide (0 < q)) 4 t3 = t4 at *
  generalize frmD (decide (0 < q')) 4 s3 = s4 at *
  obtain ⟨e1, e2⟩ := sim_num (l := l) d1
  have l5 : (numF l t4).2.le = 0 → t4.le = 0 := fun h => (numF_ok h).1
  generalize numF l t4 = r at *
  obtain ⟨c, t5⟩ := r
  generalize rdN l s4 = r' at *
  obtain ⟨c', s5⟩ := r'
  dsimp only at e1 e2 l5 ⊢
  have f1 := sim_must (h := keptB c) (h' := keptB c') (c := 4) (by decide) e1 (fun h => by rw [e2 (l5 h)])
  have l6 : (mustF (keptB c) 4 t5).le = 0 → t5.le = 0 := fun h => by
    have := mustF_ok (by decide) h
    rw [this.2] at h; exact h
  generalize mustF (keptB c) 4 t5 = t6 at *
  generalize frmD (keptB c') 4 s5 = s6 at *
  obtain ⟨g1, g2⟩ := sim_tex (l := l) (m := 1024) (by decide) f1
  have l7 : (texF l 1024 t6).2.le = 0 → t6.le = 0 := fun h => (texF_ok (by decide) h).1
  generalize texF l 1024 t6 = r at *
  obtain ⟨v, t7⟩ := r
  generalize rdB l 1024 s6 = r' at *
  obtain ⟨v', s7⟩ := r'
  dsimp only at g1 g2 l7 ⊢
  have i1 := sim_must (h := decide (v = [] ∨ c = 3)) (h' := decide (v' = [] ∨ c' = 3)) (c := 4) (by decide) g1 (fun h => by rw [g2 (l7 h), e2 (l5 (l6 (l7 h)))])
  have l8 : (mustF (decide (v = [] ∨ c = 3)) 4 t7).le = 0 → t7.le = 0 := fun h => by
    have := mustF_ok (by decide) h
    rw [this.2] at h; exact h
  refine ⟨i1, fun h => ?_⟩
  dsimp only at h ⊢
  have n7 := l8 h
  have n6 := l7 n7
  have n5 := l6 n6
  have n4 := l5 n5
  have n3 := l4 n4
  obtain ⟨m1, n1⟩ := l2 (l3 n3)
  have n0 := l1 n1
  obtain ⟨q1, q2, q3⟩ := hq n0
  subst q1 q2
  rw [a2 n0, c2 (l3 n3), e2 n4, g2 n6, lastC_snoc]
  have m1' : lastC ps < k := by simpa using m1
  refine ⟨put_last (κ := kS) (fun p hp => by have := q3 p hp; simp [kS, Lit.before]; omega), by simp, fun p hp => ?_⟩
  rcases List.mem_append.1 hp with hp | hp
  · have := q3 p hp; dsimp only; omega
  · simp at hp; subst hp; dsimp only; omega
theorem SR.loop {l : Bs} : ∀ (k : Nat) {x : (Nat × List Se) × Ld} {y : List Se × (Nat × Nat)}, SR x y → SR (itr (sesF l) k x) (whl (sesD l) k y)
  | 0, _, _, h => h
  | k + 1, x, y, h => by
    by_cases he : x.2.le = 0
    · have hy : y.2.2 = 0 := by rw [h.sim.err]; exact he
      rw [itr_front]
      unfold whl
      rw [if_pos hy]
      exact SR.loop k h.step
    · have hy : y.2.2 ≠ 0 := by rw [h.sim.err]; exact he
      rw [whl_stop hy]
      have e := itr_sess_lf (l := l) (k + 1) he
      exact ⟨.inr ⟨by rw [e]; exact he, by rw [e]; exact h.sim.err⟩, fun h0 => absurd (e ▸ h0) he⟩

theorem sim_prs (l : Bs) : PR (prsF l ⟨0, 0, 0⟩) (docP l) := by
  have h0 : Sim ⟨0, 0, 0⟩ (0, 0) := .inl ⟨rfl, rfl, rfl⟩
  obtain ⟨a1, a2⟩ := sim_cnt (l := l) (most := 128) h0
  unfold prsF docP
  have hst : PR (([], []), (cntF l 128 ⟨0, 0, 0⟩).2) ([], (cntD l 128 (0, 0)).2) := ⟨a1, fun _ => ⟨rfl, rfl, by simp⟩⟩
  by_cases he : (cntF l 128 ⟨0, 0, 0⟩).2.le = 0
  · rw [a2 he]
    exact PR.loop _ hst
  · rw [whl_stop (by rw [show (([] : List (Bs × Bs)), (cntD l 128 (0, 0)).2).2.2 = _ from a1.err]; exact he)]
    have : (cntF l 128 ⟨0, 0, 0⟩).1 = 0 := by
      have he' := he
      unfold cntF at he' ⊢
      dsimp only at he' ⊢
      rw [if_neg he']
    rw [this]
    exact hst
theorem sim_sss (l : Bs) : SR (rst2 l) (docS l) := by
  have h0 := (sim_prs l).sim
  obtain ⟨a1, a2⟩ := sim_cnt (l := l) (most := 32) h0
  unfold rst2 sssF docS
  have hst : SR ((0, []), (cntF l 32 (prsF l ⟨0, 0, 0⟩).2).2) ([], (cntD l 32 (docP l).2).2) := ⟨a1, fun _ => ⟨rfl, rfl, by simp⟩⟩
  by_cases he : (cntF l 32 (prsF l ⟨0, 0, 0⟩).2).2.le = 0
  · rw [a2 he]
    exact SR.loop _ hst
  · rw [whl_stop (by rw [show (([] : List Se), (cntD l 32 (docP l).2).2).2.2 = _ from a1.err]; exact he)]
    have : (cntF l 32 (prsF l ⟨0, 0, 0⟩).2).1 = 0 := by
      have he' := he
      unfold cntF at he' ⊢
      dsimp only at he' ⊢
      rw [if_neg he']
    rw [this]
    exact hst
/-- Both answer one error; and where there is none, one store. -/
theorem doc_rst (l : Bs) : docE l = rstE l ∧ (rstE l = 0 → docK l = rstK l) := by
  have h2 := sim_sss l
  have hE : docE l = rstE l := by
    unfold docE rstE donF
    rcases h2.sim with ⟨h3, h4, h5⟩ | ⟨h3, h4⟩
    · rw [if_neg (by simpa using h3), h5, h4]
    · rw [if_pos h3, h4]
      unfold doneE
      rw [if_neg (fun h => h3 h.1)]
  refine ⟨hE, fun h => ?_⟩
  have h3 : (rst2 l).2.le = 0 := by
    unfold rstE donF at h
    by_cases h3 : (rst2 l).2.le = 0
    · exact h3
    · rw [if_pos h3] at h; exact h
  have h4 : (prsF l ⟨0, 0, 0⟩).2.le = 0 := by
    have h5 := h3
    unfold rst2 sssF at h5
    exact (cntF_ok (sess_ok _ h5).1).1
  unfold docK rstK
  rw [(h2.same h3).1, ((sim_prs l).same h4).1]
end Go.Proofs.YtglhjgfaelfleaaGreat
