/-
  Save on plain disks: what stands under snapshots' names.
-/
import Derived.Test.YtadajbdmlmickaaGreatDoorSw
import Derived.Test.YtadajbdmlmickaaGreatDoorLd
namespace Go.Proofs.YtadajbdmlmickaaGreatDoor
open Go.RowKit
set_option linter.unusedVariables false

theorem lookP_nm {nm : List UInt8} {fs : List PF} {f : PF} (h : lookP nm fs = some f) : f ∈ fs ∧ f.nm = nm := by
  unfold lookP at h
  exact ⟨List.mem_of_find?_eq_some h, by simpa using List.find?_some h⟩
theorem lookP_none {nm : List UInt8} {fs : List PF} (h : lookP nm fs = none) {f : PF} (hf : f ∈ fs) : f.nm ≠ nm := by
  unfold lookP at h
  have := List.find?_eq_none.1 h f hf
  simpa using this
theorem lookP_map {nm : List UInt8} {fs : List PF} {g : PF → PF} (hg : ∀ f, (g f).nm = f.nm) : lookP nm (fs.map g) = (lookP nm fs).map g := by
  unfold lookP
  rw [List.find?_map]
  congr 1
  congr 1
  funext f
  simp [hg]
theorem mem_del {x : List UInt8} {fs : List PF} {g : PF} (h : g ∈ delP x fs) : g.nm ≠ x := by
  have := (List.mem_filter.1 h).2
  simpa using this
theorem lookP_del {nm x : List UInt8} {fs : List PF} : lookP nm (delP x fs) = if nm = x then none else lookP nm fs := by
  unfold lookP delP
  induction fs with
  | nil => simp
  | cons f r ih =>
    by_cases hx : f.nm = x
    · rw [List.filter_cons_of_neg (by simp [hx])]
      rw [ih]
      by_cases hn : nm = x
      · rw [if_pos hn, if_pos hn]
      · rw [if_neg hn, if_neg hn, List.find?_cons_of_neg (by simp [hx]; exact fun e => hn e.symm)]
    · rw [List.filter_cons_of_pos (by simp [hx])]
      by_cases hf : f.nm = nm
      · rw [List.find?_cons_of_pos (by simp [hf]), List.find?_cons_of_pos (by simp [hf]), if_neg (fun e => hx (hf.trans e))]
      · rw [List.find?_cons_of_neg (by simp [hf]), List.find?_cons_of_neg (by simp [hf]), ih]
theorem lookP_ins {nm : List UInt8} {f : PF} {fs : List PF} (h : ∀ g ∈ fs, g.nm ≠ f.nm) : lookP nm (insP f fs) = if f.nm = nm then some f else lookP nm fs := by
  unfold lookP
  induction fs with
  | nil =>
    unfold insP
    by_cases hf : f.nm = nm
    · rw [if_pos hf, List.find?_cons_of_pos (by simp [hf])]
    · rw [if_neg hf, List.find?_cons_of_neg (by simp [hf])]
  | cons y q ih =>
    have ih' := ih (fun g hg => h g (List.mem_cons_of_mem _ hg))
    have hy := h y (List.mem_cons_self ..)
    unfold insP
    split
    · by_cases hf : f.nm = nm
      · rw [if_pos hf, List.find?_cons_of_pos (by simp [hf])]
      · rw [if_neg hf, List.find?_cons_of_neg (by simp [hf])]
    · by_cases hyn : y.nm = nm
      · rw [List.find?_cons_of_pos (by simp [hyn]), List.find?_cons_of_pos (by simp [hyn]), if_neg (fun e => hy (hyn.trans e.symm))]
      · rw [List.find?_cons_of_neg (by simp [hyn]), List.find?_cons_of_neg (by simp [hyn]), ih']

/-- What stands under a name, but for whether it was appended to last. -/
def vw (p : PD) (nm : List UInt8) : Option (List UInt8 × Nat) := (lookP nm p.fs).map fun f => (f.dat, f.syn)
theorem vw_fail (p : PD) (nm : List UInt8) : vw p.fail nm = vw p nm := by unfold vw; rw [pd_fail_fs]
theorem vw_fs {p q : PD} (h : q.fs = p.fs) (nm : List UInt8) : vw q nm = vw p nm := by unfold vw; rw [h]

theorem vw_remove (p : PD) {nm : List UInt8} (h : nm ≠ tmpL) : vw (doRemove p tmpL).2 nm = vw p nm := by
  unfold doRemove
  repeat' split
  all_goals try rfl
  · exact vw_fail p nm
  · unfold vw; show (lookP nm (delP tmpL p.fs)).map _ = _; rw [lookP_del, if_neg h]
theorem vw_create (p : PD) {nm : List UInt8} (h : nm ≠ tmpL) : vw (doCreate p tmpL).2 nm = vw p nm := by
  unfold doCreate
  repeat' split
  all_goals try rfl
  · exact vw_fail p nm
  · unfold vw
    show (lookP nm (insP ⟨tmpL, [], 0, false⟩ (delP tmpL p.fs))).map _ = _
    rw [lookP_ins (fun g hg => mem_del hg), if_neg (fun e => h e.symm), lookP_del, if_neg h]
theorem vw_append (p : PD) (b : List UInt8) {nm : List UInt8} (h : nm ≠ tmpL) : vw (doAppend p tmpL b).2 nm = vw p nm := by
  have key : ∀ c : List UInt8, (lookP nm (p.fs.map (appP tmpL c))).map (fun f => (f.dat, f.syn)) = (lookP nm p.fs).map (fun f => (f.dat, f.syn)) := fun c => by
    rw [lookP_map (fun f => by unfold appP; split <;> rfl)]
    cases hl : lookP nm p.fs with
    | none => rfl
    | some f =>
      have hn := (lookP_nm hl).2
      show some ((appP tmpL c f).dat, (appP tmpL c f).syn) = some (f.dat, f.syn)
      unfold appP
      rw [if_neg (by rw [hn]; simpa using h)]
  unfold doAppend
  repeat' split
  all_goals try rfl
  · exact key _
  · exact key _
theorem vw_sync (p : PD) {nm : List UInt8} (h : nm ≠ tmpL) : vw (doSync p tmpL).2 nm = vw p nm := by
  unfold doSync
  repeat' split
  all_goals try rfl
  · exact vw_fail p nm
  · unfold vw
    show (lookP nm (p.fs.map (syncP tmpL))).map _ = _
    rw [lookP_map (fun f => by unfold syncP; split <;> rfl)]
    cases hl : lookP nm p.fs with
    | none => rfl
    | some f =>
      have hn := (lookP_nm hl).2
      show some ((syncP tmpL f).dat, (syncP tmpL f).syn) = some (f.dat, f.syn)
      unfold syncP
      rw [if_neg (by rw [hn]; simpa using h)]
/-- Behind a rename. -/
theorem vw_rename (p : PD) (tn : List UInt8) (ht : tn ≠ tmpL) {nm : List UInt8} (h : nm ≠ tmpL) : ((doRename p tmpL tn).1 ≠ 0 ∧ vw (doRename p tmpL tn).2 nm = vw p nm) ∨ ((doRename p tmpL tn).1 = 0 ∧ vw (doRename p tmpL tn).2 nm = if nm = tn then vw p tmpL else vw p nm) := by
  unfold doRename
  split
  · exact .inl ⟨by simp, rfl⟩
  · split
    · exact .inl ⟨by simp, rfl⟩
    · rename_i f hf
      split
      · exact .inl ⟨by simp, rfl⟩
      · split
        · exact .inl ⟨by simp, vw_fail p nm⟩
        · split
          · rename_i e; exact absurd e.symm ht
          · refine .inr ⟨rfl, ?_⟩
            unfold vw
            show (lookP nm (insP { f with nm := tn } (delP tn (delP tmpL (delP tn p.fs))))).map _ = _
            rw [lookP_ins (fun g hg => mem_del hg)]
            by_cases hn : nm = tn
            · rw [if_pos (by exact hn.symm), if_pos hn, hf]; rfl
            · rw [if_neg (fun e => hn e.symm), if_neg hn, lookP_del, if_neg hn, lookP_del, if_neg h, lookP_del, if_neg hn]

/-- Of a state behind k steps that went well: what lies under other names, and what Temp holds. -/
theorem st_view (p : PD) (b : List UInt8) (i : Nat) {k : Nat} (hk : k ≤ 4) {nm : List UInt8} (h : nm ≠ tmpL) : vw (stK p b i k).2 nm = vw p nm := by
  have h1 : vw (st1 p).2 nm = vw p nm := by
    unfold st1; split
    · exact vw_remove p h
    · rfl
  have h2 : vw (st2 p).2 nm = vw p nm := by
    unfold st2 thenP; split
    · rw [vw_create _ h, h1]
    · exact h1
  have h3 : vw (st3 p b).2 nm = vw p nm := by
    unfold st3 thenP; split
    · rw [vw_append _ _ h, h2]
    · exact h2
  have h4 : vw (st4 p b).2 nm = vw p nm := by
    unfold st4 thenP; split
    · rw [vw_sync _ h, h3]
    · exact h3
  have hc : k = 0 ∨ k = 1 ∨ k = 2 ∨ k = 3 ∨ k = 4 := by omega
  rcases hc with rfl | rfl | rfl | rfl | rfl
  · rfl
  · exact h1
  · exact h2
  · exact h3
  · exact h4
theorem create_tmp {q : PD} (h : (doCreate q tmpL).1 = 0) : vw (doCreate q tmpL).2 tmpL = some ([], 0) := by
  unfold doCreate at h ⊢
  repeat' split at h
  all_goals first | (simp at h; done) | skip
  rename_i h1 h2 h3 h4 h5
  rw [if_neg h1, if_neg h2, if_neg h3, if_neg h4, if_neg h5]
  unfold vw
  show (lookP tmpL (insP ⟨tmpL, [], 0, false⟩ (delP tmpL q.fs))).map _ = _
  rw [lookP_ins (fun g hg => mem_del hg), if_pos rfl]
  rfl
theorem append_tmp {q : PD} {b d : List UInt8} {s : Nat} (h : (doAppend q tmpL b).1 = 0) (hv : vw q tmpL = some (d, s)) : vw (doAppend q tmpL b).2 tmpL = some (d ++ b, s) := by
  unfold doAppend at h ⊢
  repeat' split at h
  all_goals first | (simp at h; done) | skip
  rename_i h1 h2 h3 h4
  rw [if_neg h1, if_neg h2, if_neg h3, if_neg h4]
  unfold vw at hv ⊢
  show (lookP tmpL (q.fs.map (appP tmpL b))).map _ = _
  rw [lookP_map (fun f => by unfold appP; split <;> rfl)]
  cases hl : lookP tmpL q.fs with
  | none => rw [hl] at hv; cases hv
  | some f =>
    rw [hl] at hv
    have hn := (lookP_nm hl).2
    have hv' : (f.dat, f.syn) = (d, s) := by simpa using hv
    show some ((appP tmpL b f).dat, (appP tmpL b f).syn) = _
    unfold appP
    rw [if_pos (by rw [hn]; simp)]
    simp only [Prod.mk.injEq] at hv'
    rw [← hv'.1, ← hv'.2]
theorem sync_tmp {q : PD} {d : List UInt8} {s : Nat} (h : (doSync q tmpL).1 = 0) (hv : vw q tmpL = some (d, s)) : vw (doSync q tmpL).2 tmpL = some (d, d.length) := by
  unfold doSync at h ⊢
  repeat' split at h
  all_goals first | (simp at h; done) | skip
  rename_i h1 h2 h3
  rw [if_neg h1, if_neg h2, if_neg h3]
  unfold vw at hv ⊢
  show (lookP tmpL (q.fs.map (syncP tmpL))).map _ = _
  rw [lookP_map (fun f => by unfold syncP; split <;> rfl)]
  cases hl : lookP tmpL q.fs with
  | none => rw [hl] at hv; cases hv
  | some f =>
    rw [hl] at hv
    have hn := (lookP_nm hl).2
    have hv' : (f.dat, f.syn) = (d, s) := by simpa using hv
    show some ((syncP tmpL f).dat, (syncP tmpL f).syn) = _
    unfold syncP
    rw [if_pos (by rw [hn]; simp)]
    simp only [Prod.mk.injEq] at hv'
    rw [← hv'.1]
theorem st4_tmp (p : PD) (b : List UInt8) (h : (st4 p b).1 = 0) : vw (st4 p b).2 tmpL = some (b, b.length) := by
  unfold st4 thenP at h ⊢
  by_cases h3 : (st3 p b).1 = 0
  · rw [if_pos h3] at h ⊢
    unfold st3 thenP at h3 h ⊢
    by_cases h2 : (st2 p).1 = 0
    · rw [if_pos h2] at h3 h ⊢
      unfold st2 thenP at h2 h3 h ⊢
      by_cases h1 : (st1 p).1 = 0
      · rw [if_pos h1] at h2 h3 h ⊢
        have e1 := create_tmp h2
        have e2 := append_tmp h3 e1
        rw [List.nil_append] at e2
        exact sync_tmp h e2
      · rw [if_neg h1] at h2; exact absurd h2 h1
    · rw [if_neg h2] at h3; exact absurd h3 h2
  · rw [if_neg h3] at h; exact absurd h h3
/-- What a Save leaves under any other name than Temp. -/
theorem save_view (p : PD) (i t : Int) (m : List UInt8) {nm : List UInt8} (h : nm ≠ tmpL) : ((saveP p i t m).1 ≠ 0 ∧ vw (saveP p i t m).2 nm = vw p nm) ∨ ((saveP p i t m).1 = 0 ∧ frmE i t m.length = 0 ∧ vw (saveP p i t m).2 nm = if nm = nmL i.toNat then some (frL i t m, (frL i t m).length) else vw p nm) := by
  unfold saveP
  by_cases hE : frmE i t m.length = 0
  · rw [if_neg (by simpa using hE)]
    show ((stK p (frL i t m) i.toNat 5).1 ≠ 0 ∧ vw (stK p (frL i t m) i.toNat 5).2 nm = _) ∨ ((stK p (frL i t m) i.toNat 5).1 = 0 ∧ _ ∧ vw (stK p (frL i t m) i.toNat 5).2 nm = _)
    have h4v := st_view p (frL i t m) i.toNat (k := 4) (by omega) h
    by_cases h4 : (st4 p (frL i t m)).1 = 0
    · have e5 : stK p (frL i t m) i.toNat 5 = doRename (st4 p (frL i t m)).2 tmpL (nmL i.toNat) := by show thenP (st4 p (frL i t m)) (fun q => doRename q tmpL (nmL i.toNat)) = _; exact thenP_ok h4
      rw [e5]
      rcases vw_rename (st4 p (frL i t m)).2 (nmL i.toNat) (nm_tmp _) h with ⟨q1, q2⟩ | ⟨q1, q2⟩
      · exact .inl ⟨q1, q2.trans h4v⟩
      · refine .inr ⟨q1, hE, ?_⟩
        rw [q2, st4_tmp p _ h4]
        split
        · rfl
        · exact h4v
    · have e5 : stK p (frL i t m) i.toNat 5 = st4 p (frL i t m) := by show thenP (st4 p (frL i t m)) (fun q => doRename q tmpL (nmL i.toNat)) = _; exact thenP_no h4
      rw [e5]
      exact .inl ⟨h4, h4v⟩
  · rw [if_pos hE]
    exact .inl ⟨hE, rfl⟩
end Go.Proofs.YtadajbdmlmickaaGreatDoor
