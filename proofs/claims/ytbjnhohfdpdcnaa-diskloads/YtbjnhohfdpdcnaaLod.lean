/-
  DiskLoaded: the names of a disk; what a disk of a disk's files is; the walk of the law.
-/
import Derived.Test.YtbjnhohfdpdcnaaFir
import Derived.Test.YtbjnhohfdpdcnaaL2
namespace Go.Proofs.Ytbjnhohfdpdcnaa
open Go.RowKit
set_option linter.unusedVariables false

/-- All names are names. -/
def NamesOk (fs : List PF) : Prop := ∀ f ∈ fs, isNm f.nm = true
theorem NamesOk.map {fs : List PF} (h : NamesOk fs) (g : PF → PF) (hg : ∀ f, (g f).nm = f.nm) : NamesOk (fs.map g) := fun f hf => by
  obtain ⟨q, hq, rfl⟩ := List.mem_map.1 hf
  rw [hg]; exact h q hq
theorem NamesOk.del {fs : List PF} (h : NamesOk fs) (nm : List UInt8) : NamesOk (delP nm fs) := fun f hf => h f (List.mem_filter.1 hf).1
theorem mem_insP {x f : PF} {l : List PF} : x ∈ insP f l ↔ x = f ∨ x ∈ l := by
  induction l with
  | nil => simp [insP]
  | cons y q ih =>
    unfold insP
    split
    · simp
    · simp only [List.mem_cons, ih]
      constructor
      · rintro (h | h | h) <;> simp [h]
      · rintro (h | h | h) <;> simp [h]
theorem NamesOk.ins {fs : List PF} (h : NamesOk fs) {f : PF} (hf : isNm f.nm = true) : NamesOk (insP f fs) := fun x hx => by
  rcases mem_insP.1 hx with rfl | hx
  · exact hf
  · exact h x hx
theorem fail_fs' (p : PD) (fs : List PF) : ({ p.fail with fs := fs } : PD).fs = fs := rfl
theorem told_names {p : PD} (h : NamesOk p.fs) (o : Opn) : NamesOk (toldP p o).2.fs := by
  have hf : NamesOk p.fail.fs := by rw [pd_fail_fs]; exact h
  unfold toldP
  split
  · unfold doCreate
    repeat' split
    all_goals first | exact h | exact hf | (refine NamesOk.ins (h.del _) ?_; simp_all)
  split
  · unfold doAppend
    repeat' split
    all_goals first | exact h | exact hf | (refine NamesOk.map h _ (fun f => ?_); unfold appP; split <;> rfl)
  split
  · unfold doSync
    repeat' split
    all_goals first | exact h | exact hf | (refine NamesOk.map h _ (fun f => ?_); unfold syncP; split <;> rfl)
  split
  · unfold doCut
    repeat' split
    all_goals first | exact h | exact hf | (refine NamesOk.map h _ (fun f => ?_); unfold cutP; split <;> rfl)
  split
  · unfold doRename
    repeat' split
    all_goals first | exact h | exact hf | (refine NamesOk.ins (((h.del _).del _).del _) ?_; simp_all)
  split
  · unfold doRemove
    repeat' split
    all_goals first | exact h | exact hf | exact h.del _
  split
  · exact h
  split
  · exact NamesOk.map h _ (fun f => rfl)
  · exact h
theorem made_names (os : List Opn) : NamesOk (madeP os).fs := by
  unfold madeP
  have key : ∀ (os : List Opn) (p : PD), NamesOk p.fs → NamesOk (os.foldl (fun p o => (toldP p o).2) p).fs := by
    intro os
    induction os with
    | nil => exact fun p h => h
    | cons o r ih => exact fun p h => ih _ (told_names h o)
  exact key os _ (fun f hf => by simp at hf)

theorem before_asymm : ∀ {a b : List UInt8}, bytesBefore a b = true → bytesBefore b a = false
  | [], [], h => by simp [bytesBefore] at h
  | [], _ :: _, _ => by simp [bytesBefore]
  | _ :: _, [], h => by simp [bytesBefore] at h
  | x :: r, y :: s, h => by
    simp only [bytesBefore, Bool.or_eq_true, Bool.and_eq_true, decide_eq_true_eq, beq_iff_eq] at h
    simp only [bytesBefore, Bool.or_eq_false_iff, Bool.and_eq_false_iff, decide_eq_false_iff_not]
    rcases h with h | ⟨rfl, h⟩
    · exact ⟨fun h2 => absurd (UInt8.lt_trans h h2) (UInt8.lt_irrefl _), .inl (by simpa using fun e => absurd (e ▸ h) (UInt8.lt_irrefl _))⟩
    · exact ⟨UInt8.lt_irrefl _, .inr (before_asymm h)⟩
theorem ins_end {f : PF} : ∀ {l : List PF}, (∀ y ∈ l, bytesBefore y.nm f.nm = true) → insP f (delP f.nm l) = l ++ [f]
  | [], _ => rfl
  | y :: r, h => by
    have hy := h y (by simp)
    have e1 : delP f.nm (y :: r) = y :: delP f.nm r := by
      have := before_ne hy
      simp [delP, this]
    rw [e1, insP, if_neg (by rw [before_asymm hy]; simp), ins_end (fun z hz => h z (by simp [hz]))]
    rfl
/-- The files, none the last one. -/
def calmP (f : PF) : PF := { f with late := false }
theorem load_same {fs : List Fl} {p : List PF} (hs : saysF fs = p.map PF.says) (hr : p.Pairwise (fun f g => bytesBefore f.nm g.nm = true)) : (loadP fs).fs = p.map calmP := by
  have e : fs.map Fl.pf = p.map calmP := by
    have := congrArg (List.map (fun x : List UInt8 × List UInt8 × Int => PF.mk x.1 x.2.1 x.2.2.toNat false)) hs
    simp only [saysF, List.map_map] at this
    exact this
  show fs.foldl (fun l f => insP f.pf (delP f.nm l)) [] = _
  have key : ∀ (fs : List Fl) (acc : List PF), (acc ++ fs.map Fl.pf).Pairwise (fun f g => bytesBefore f.nm g.nm = true) → fs.foldl (fun l f => insP f.pf (delP f.nm l)) acc = acc ++ fs.map Fl.pf := by
    intro fs
    induction fs with
    | nil => simp
    | cons f r ih =>
      intro acc h
      have h1 : insP f.pf (delP f.nm acc) = acc ++ [f.pf] := ins_end (f := f.pf) (fun y hy => (List.pairwise_append.1 h).2.2 y hy f.pf (by simp))
      rw [List.foldl_cons, h1, ih _ (by simpa using h)]
      simp
  rw [key fs [] (by rw [List.nil_append, e]; exact List.pairwise_map.2 (hr.imp (fun h => h))), List.nil_append, e]
theorem load_fine {fs : List Fl} {p : List PF} (hs : saysF fs = p.map PF.says) (hr : p.Pairwise (fun f g => bytesBefore f.nm g.nm = true)) (hn : NamesOk p) (hy : ∀ f ∈ p, f.syn ≤ f.dat.length) (hl : p.length ≤ 256) (hsum : sumP p ≤ 16777216) : loadE fs = 0 := by
  have hlen : fs.length = p.length := by have := congrArg List.length hs; simpa [saysF] using this
  have e1 : fs.map (fun f => f.dat.length) = p.map (fun f => f.dat.length) := by
    have := congrArg (List.map (fun x : List UInt8 × List UInt8 × Int => x.2.1.length)) hs
    simp only [saysF, List.map_map] at this
    exact this
  have e2 : sumF fs = sumP p := by unfold sumF sumP; rw [e1]
  have key : ∀ (fs : List Fl) (p : List PF) (A : List (List UInt8)), saysF fs = p.map PF.says → p.Pairwise (fun f g => bytesBefore f.nm g.nm = true) → NamesOk p → (∀ f ∈ p, f.syn ≤ f.dat.length) → (∀ f ∈ p, f.nm ∉ A) → chkFls A fs = 0 := by
    intro fs
    induction fs with
    | nil => intros; rfl
    | cons f r ih =>
      intro p A h1 h2 h3 h4 h5
      cases p with
      | nil => simp [saysF] at h1
      | cons g q =>
        simp only [saysF, List.map_cons, List.cons.injEq] at h1
        obtain ⟨hfg, h1⟩ := h1
        obtain ⟨r1, r2⟩ := List.pairwise_cons.1 h2
        obtain ⟨nm, fa, fc, dat, syn⟩ := f
        simp only [Fl.says, PF.says, Prod.mk.injEq] at hfg
        obtain ⟨rfl, rfl, rfl⟩ := hfg
        have z : chkFl A ⟨g.nm, fa, fc, g.dat, (g.syn : Int)⟩ = 0 := by
          have z1 := h3 g (by simp)
          have z2 := h4 g (by simp)
          have z3 := h5 g (by simp)
          unfold chkFl
          simp only
          rw [if_neg (by rw [z1]; simp), if_neg (by simpa using z3), if_neg (by omega)]
        unfold chkFls
        rw [if_neg (by simpa using z)]
        refine ih q _ h1 r2 (fun x hx => h3 x (by simp [hx])) (fun x hx => h4 x (by simp [hx])) (fun x hx hm => ?_)
        simp only [List.mem_append, List.mem_singleton] at hm
        rcases hm with hm | hm
        · exact h5 x (by simp [hx]) hm
        · exact before_ne (r1 x hx) hm.symm
  unfold loadE
  rw [key fs p [] hs hr hn hy (by simp), if_neg (by simp), hlen, e2, if_neg (by omega)]
theorem Dsk.shape {N : Nat} {S : Nat → Prop} {w : World} {d : Nat} {p : PD} (h : Dsk N w S d p) : p.fs.Pairwise (fun f g => bytesBefore f.nm g.nm = true) ∧ (∀ f ∈ p.fs, f.syn ≤ f.dat.length) ∧ p.fs.length ≤ 256 ∧ sumP p.fs ≤ 16777216 := by
  obtain ⟨k, hk, rfl, hS⟩ := h
  refine ⟨List.pairwise_map.2 (hk.rise.imp (fun h => h)), fun f hf => ?_, by simpa [DS.pd] using hk.few, by rw [sum_pd]; exact hk.all⟩
  obtain ⟨r, hr, rfl⟩ := List.mem_map.1 hf
  exact (hk.fs r hr).syn
theorem crash_calm (p : PD) : doCrash ⟨p.fs.map calmP, 0, false⟩ 5 = doCrash p 0 := by
  unfold doCrash
  congr 1
  simp only [List.map_map]
  refine List.map_congr_left fun f _ => ?_
  show crashP 5 (calmP f) = crashP 0 f
  unfold crashP calmP
  cases f.late <;> simp
theorem size_dsk {N : Nat} {S : Nat → Prop} {w : World} {d : Nat} {p : PD} (h : Dsk N w S d p) : Calls Try.prog 23 #[.pointer (some ⟨d, 0, none⟩)] w fun r w' => r = .returned (.int .i64 (sumP p.fs : Int)) ∧ Below w.heap.size w w' := by
  obtain ⟨k, hk, rfl, hS⟩ := h
  rw [sum_pd]
  exact size_any hk

/-- The disk behind more operations. -/
def moreP (p : PD) (os : List Opn) : PD := os.foldl (fun p o => (toldP p o).2) p
theorem moreP_step {p : PD} {os : List Opn} {k : Nat} (h : k < os.length) : moreP p (os.take (k + 1)) = (toldP (moreP p (os.take k)) (os.getD k nilOp)).2 := by
  unfold moreP
  rw [take_op h, List.foldl_append]; rfl

end Go.Proofs.Ytbjnhohfdpdcnaa
