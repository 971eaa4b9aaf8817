/-
  The document's disk: Remove.
-/
import Derived.Test.YtbjnhohfdpdcnaaRe1
import Derived.Test.YtbjnhohfdpdcnaaRe3
namespace Go.Proofs.Ytbjnhohfdpdcnaa
open Go.RowKit Go.Shelf
set_option linter.unusedVariables false

theorem says_nms {fs : List Fl} {ps : List PF} (h : fs.map Fl.says = ps.map PF.says) : fs.map Fl.nm = ps.map PF.nm := by
  have := congrArg (List.map fun (x : List UInt8 × List UInt8 × Int) => x.1) h
  rw [List.map_map, List.map_map] at this
  exact this
theorem says_rem : ∀ {fs : List Fl} {ps : List PF} {j : Nat} {nm : List UInt8}, fs.map Fl.says = ps.map PF.says → ps.Pairwise (fun f g => f.nm ≠ g.nm) → j < fs.length → (fs.getD j nilFl).nm = nm → (remF fs j).map Fl.says = (delP nm ps).map PF.says
  | [], _, _, _, _, _, h, _ => by simp at h
  | _ :: _, [], _, _, h, _, _, _ => by simp at h
  | f :: r, q :: s, 0, nm, h, hp, _, hn => by
    simp only [List.map_cons, List.cons.injEq] at h
    obtain ⟨h1, h2⟩ := List.pairwise_cons.1 hp
    simp only [List.getD_cons_zero] at hn
    have hq : q.nm = nm := by have := h.1; simp only [Fl.says, PF.says, Prod.mk.injEq] at this; rw [← this.1]; exact hn
    have e : delP nm (q :: s) = s := by
      unfold delP
      rw [List.filter_cons_of_neg (by simp [hq])]
      exact List.filter_eq_self.2 (fun x hx => by have := h1 x hx; rw [hq] at this; simpa using fun e : x.nm = nm => this e.symm)
    rw [e]
    simpa [remF] using h.2
  | f :: r, q :: s, j + 1, nm, h, hp, hj, hn => by
    simp only [List.map_cons, List.cons.injEq] at h
    obtain ⟨h1, h2⟩ := List.pairwise_cons.1 hp
    have hj' : j < r.length := by simpa using hj
    simp only [List.getD_cons_succ] at hn
    have ih := says_rem h.2 h2 hj' hn
    have hq : q.nm ≠ nm := fun e => by
      have : (r.getD j nilFl).says ∈ s.map PF.says := by rw [← h.2]; exact List.mem_map_of_mem (getD_mem hj')
      obtain ⟨x, hx, e2⟩ := List.mem_map.1 this
      simp only [Fl.says, PF.says, Prod.mk.injEq] at e2
      exact h1 x hx (by rw [e, e2.1, hn])
    have e : delP nm (q :: s) = q :: delP nm s := by
      unfold delP
      rw [List.filter_cons_of_pos (by simpa using hq)]
    have e2 : remF (f :: r) (j + 1) = f :: remF r j := by simp [remF]
    rw [e, e2, List.map_cons, List.map_cons, h.1, ih]
theorem rem_len {fs : List Fl} {j : Nat} (hj : j < fs.length) : (remF fs j).length + 1 = fs.length := by simp [remF]; omega
theorem rem_mem {fs : List Fl} {j : Nat} {f : Fl} (hf : f ∈ remF fs j) : f ∈ fs := by
  rcases List.mem_append.1 hf with hf | hf
  · exact List.mem_of_mem_take hf
  · exact List.mem_of_mem_drop hf
/-- A file is gone. -/
theorem RD.rem {w w' : World} {B j : Nat} {p : PD} {v v' : Value} {fs : List Fl} {l l' nm : List UInt8} (h : RD 0 w B p v fs l) (hp : p.fs.Pairwise (fun f g => f.nm ≠ g.nm)) (hj : j < fs.length) (hn : (fs.getD j nilFl).nm = nm) (hd : w'.heap[B]? = some (.cells #[v', .int .i64 (p.arm : Int), .bool p.dn, .string ⟨l'.toArray⟩] 30 (0, 0))) (hfi : FilesIn 0 w' v' (remF fs j)) (hla : ∀ f ∈ delP nm p.fs, f.late = (f.nm == l')) : RD 0 w' B { p with fs := delP nm p.fs } v' (remF fs j) l' := by
  refine ⟨Nat.zero_le _, hd, hfi, says_rem h.sy hp hj hn, ?_, ?_, hla⟩
  · have := rem_len hj
    have := h.fw
    omega
  · have := sumP_delP nm p.fs
    have := h.sm
    show sumP (delP nm p.fs) ≤ _
    omega
theorem del_mem {f : PF} {nm : List UInt8} {ps : List PF} : f ∈ delP nm ps ↔ f ∈ ps ∧ f.nm ≠ nm := by simp [delP]

set_option maxRecDepth 100000 in
set_option maxHeartbeats 8000000 in
theorem refRemove {S : Nat → Prop} {w : World} {B : Nat} {p : PD} (h : RDs S w B p) (hg : Good p) (nm : List UInt8) :
    Calls Try.prog 41 #[.pointer (some ⟨B, 0, none⟩), .string ⟨nm.toArray⟩] w fun r w' => RDone S w B (doRemove p nm) r w' := by
  obtain ⟨v, fs, l, h⟩ := h
  obtain ⟨k0, k1, k2, k3, f0, f1, f2, f3⟩ := h.rd.cells
  have HH : Hid (Rdo S w B p v fs l) := h
  have HS := says_nm h.rd.sy nm
  obtain ⟨va, vc, hv⟩ := row_shape h.rd.fi.row
  have hat := refAt_any h.rd nm
  have hsm := h.rd.sm
  cases hd : p.dn with
  | true =>
    have HE : Hid (doRemove p nm = (11, p)) := by show doRemove p nm = _; simp [doRemove, hd]
    rw [hd] at k2
    clear h HS hd
    subst hv
    go_enter Try.func41, Try.ntmps41
    go_wp2
    go_ret
    exact RDone.mk HE.out rfl (Out.refl _ _) HH.out.grew
  | false =>
  rw [hd] at k2
  by_cases h2 : (lookP nm p.fs).isSome = true
  case neg =>
    have hnone : lookP nm p.fs = none := by simpa using h2
    have HE : Hid (doRemove p nm = (8, p)) := by show doRemove p nm = _; simp [doRemove, hd, hnone]
    have HX : Hid (∀ f ∈ fs, f.nm ≠ nm) := fun f hf e => h2 (HS.1 ⟨f, hf, e⟩)
    clear h h2 HS hd hnone
    subst hv
    go_enter Try.func41, Try.ntmps41
    go_wp2_with (first
      | (go_at_call 53; refine hat.mono ?_; rintro r w' ⟨i, rfl, hi, hw⟩; subst w'; have hi0 : i < (0 : Int) := at_neg hi HX.out; clear hi)
      | fail)
    go_ret
    exact RDone.mk HE.out rfl (Out.refl _ _) HH.out.grew
  have HX : Hid (∃ f ∈ fs, f.nm = nm) := HS.2 h2
  have HE : Hid (doRemove p nm = if p.fell then (11, p.fail) else (0, { p.fail with fs := delP nm p.fs })) := by
    show doRemove p nm = _
    simp only [doRemove, hd]
    rw [if_neg (by simp), if_neg (by simp [h2])]
  have HG : Hid (Good p) := hg
  have hfl := refFails_any h.rd hg.arm
  have HP : Hid (p.fail.fs = p.fs) := pd_fail_fs p
  clear h2 HS hd
  cases hfe : p.fell with
  | true =>
    rw [hfe] at hfl
    have HFE : Hid (p.fell = true) := hfe
    clear h hfe
    subst hv
    go_enter Try.func41, Try.ntmps41
    go_wp2_with (first
      | (go_at_call 53; refine hat.mono ?_; rintro r w' ⟨i, rfl, hi, hw⟩; subst w'; obtain ⟨j, rfl, hj, hjn⟩ := at_pos hi HX.out; have hi0 : (0 : Int) ≤ (j : Int) := (by omega); have hi1 : (j : Int) < (fs.length : Int) := (by omega); clear hi)
      | (go_at_call 57; refine hfl.mono ?_; rintro r w1 ⟨rfl, hR1, hO1⟩)
      | fail)
    go_ret
    exact RDone.mk (by rw [HE.out, HFE.out]; rfl) rfl (hO1.fit (X := S) HH.out.SB) (HH.out.step (hO1.fit (X := S) HH.out.SB) hR1 (fun g hg => .inl (HH.out.Sv g hg)) (fun f hf => .inl hf) (by rw [HP.out]; exact HH.out.lt0))
  | false =>
    rw [hfe] at hfl
    have HFE : Hid (p.fell = false) := hfe
    clear h hfe
    subst hv
    have HDN : Hid (∀ (w1 w2 : World) (v2 : Value) (j : Nat) (l' : List UInt8), RD 0 w1 B p.fail (.slice va fs.length vc) fs l → j < fs.length → (fs.getD j nilFl).nm = nm → Out (· = B) w w2 → w2.heap[B]? = some (.cells #[v2, .int .i64 (p.fail.arm : Int), .bool p.fail.dn, .string ⟨l'.toArray⟩] 30 (0, 0)) → FilesIn 0 w2 v2 (remF fs j) → (∀ g, v2.ownBlock = some g → w.heap.size ≤ g) → ((l = nm ∧ l' = []) ∨ (l ≠ nm ∧ l' = l)) → RDone S w B (doRemove p nm) (.returned (.int .i64 0)) w2) := by
      intro w1 w2 v2 j l' hR1 hj hjn hO2 hb2 hf2 hn2 hll
      have hne : p.fail.fs.Pairwise (fun f g => f.nm ≠ g.nm) := by rw [HP.out]; exact rise_ne HG.out.rise
      have hla : ∀ f ∈ delP nm p.fail.fs, f.late = (f.nm == l') := fun f hf => by
        obtain ⟨hf1, hf2⟩ := del_mem.1 hf
        have h1 := hR1.la f hf1
        rcases hll with ⟨e1, e2⟩ | ⟨e1, e2⟩
        · rw [h1, e1, e2]
          have h2 := isNm_ne (HG.out.nms f (by rw [← HP.out]; exact hf1))
          rw [show (f.nm == nm) = false from by simpa using hf2, show (f.nm == []) = false from by simpa using h2]
        · rw [h1, e2]
      have hR3 := hR1.rem hne hj hjn hb2 hf2 hla
      rw [HP.out] at hR3
      have hOS : Out S w w2 := hO2.fit (X := S) HH.out.SB
      refine RDone.mk (by rw [HE.out, HFE.out]; rfl) rfl hOS (HH.out.step hOS hR3 (fun g hg => .inr (hn2 g hg)) (fun f hf => .inl (rem_mem hf)) ?_)
      rcases hll with ⟨e1, e2⟩ | ⟨e1, e2⟩
      · exact .inl e2
      · rcases HH.out.lt0 with e | ⟨f, hf, e⟩
        · exact .inl (by rw [e2, e])
        · exact .inr ⟨f, del_mem.2 ⟨hf, by rw [e]; exact e1⟩, by rw [e2, e]⟩
    by_cases hln : l = nm
    · subst hln
      go_enter Try.func41, Try.ntmps41
      go_wp2_with (first
        | (go_at_call 53; refine hat.mono ?_; rintro r w' ⟨i, rfl, hi, hw⟩; subst w'; obtain ⟨j, rfl, hj, hjn⟩ := at_pos hi HX.out; have hi0 : (0 : Int) ≤ (j : Int) := (by omega); have hi1 : (j : Int) < (fs.length : Int) := (by omega); clear hi)
        | (go_at_call 57; refine hfl.mono ?_; rintro r w1 ⟨rfl, hR1, hO1⟩; have hta := refTake hR1 hj _ rfl)
        | (go_at_call 60; refine hta.mono ?_; rintro r w2 ⟨rfl, v2, hb2, hf2, ho2, hn2⟩; have z3 : w2.cell? ⟨B, 3, none⟩ = some (.string ⟨l.toArray⟩) := (by simp [World.cell?, hb2]); have z4 : w2.frozen? ⟨B, 3, none⟩ = false := (by simp [World.frozen?, hb2]))
        | fail)
      go_ret
      have hO2 : Out (· = B) w w2 := hO1.trans ho2 (fun i hi _ => hi)
      refine HDN.out w1 _ v2 j [] hR1 hj hjn (hO2.trans (Out.set (X := (· = B)) rfl) (fun i hi _ => hi)) (by simpa using heap_set hb2 3 (.string ⟨#[]⟩)) ?_ (fun g hg => Nat.le_trans hO1.size (hn2 g hg)) (.inl (by simp))
      have hset : Out (· = B) w2 (w2.setCell ⟨B, 3, none⟩ (.string ⟨#[]⟩)) := Out.set rfl
      refine ⟨row_out hf2.row hset (fun g hg e => ?_), fun f hf => (hf2.own f hf).out hset (fun g hg e => (hf2.own f hf).not_at hb2 (by decide) (by rw [hg, e]))⟩
      have := hn2 g hg
      have := hR1.lt
      omega
    · have hln' : (l == nm) = false := by simpa using hln
      have HLN : Hid (l ≠ nm) := hln
      clear hln
      go_enter Try.func41, Try.ntmps41
      go_wp2_with (first
        | (go_at_call 53; refine hat.mono ?_; rintro r w' ⟨i, rfl, hi, hw⟩; subst w'; obtain ⟨j, rfl, hj, hjn⟩ := at_pos hi HX.out; have hi0 : (0 : Int) ≤ (j : Int) := (by omega); have hi1 : (j : Int) < (fs.length : Int) := (by omega); clear hi)
        | (go_at_call 57; refine hfl.mono ?_; rintro r w1 ⟨rfl, hR1, hO1⟩; have hta := refTake hR1 hj _ rfl)
        | (go_at_call 60; refine hta.mono ?_; rintro r w2 ⟨rfl, v2, hb2, hf2, ho2, hn2⟩; have z3 : w2.cell? ⟨B, 3, none⟩ = some (.string ⟨l.toArray⟩) := (by simp [World.cell?, hb2]))
        | fail)
      go_ret
      exact HDN.out w1 w2 v2 j l hR1 hj hjn (hO1.trans ho2 (fun i hi _ => hi)) hb2 hf2 (fun g hg => Nat.le_trans hO1.size (hn2 g hg)) (.inr ⟨HLN.out, rfl⟩)
end Go.Proofs.Ytbjnhohfdpdcnaa
