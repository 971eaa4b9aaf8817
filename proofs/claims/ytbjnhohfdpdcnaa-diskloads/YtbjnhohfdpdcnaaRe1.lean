/-
  The document's disk: Sync.
-/
import Derived.Test.YtbjnhohfdpdcnaaRd9
namespace Go.Proofs.Ytbjnhohfdpdcnaa
open Go.RowKit Go.Shelf
set_option linter.unusedVariables false

theorem RD.drew {N : Nat} {w : World} {B : Nat} {p : PD} {v : Value} {fs : List Fl} {l : List UInt8} (h : RD N w B p v fs l) : RD N w.drew B p v fs l :=
  h.out (X := fun _ => False) (Out.of_below ⟨rfl, rfl, rfl, Nat.le_refl _, fun _ _ => rfl⟩) (fun h => h) (fun _ _ h => h) (fun _ _ _ _ h => h)
/-- Behind a write into the row of files: the files' slices are old, or new. -/
theorem Rdo.row {S : Nat → Prop} {w w' : World} {B g cap : Nat} {p p' : PD} {fs fs' : List Fl} {l : List UInt8} (h : Rdo S w B p (.slice (some ⟨g, 0, none⟩) fs.length cap) fs l) (hO : Out S w w') (rd' : RD 0 w' B p' (.slice (some ⟨g, 0, none⟩) fs.length cap) fs' l) (hf : ∀ f ∈ fs', f ∈ fs ∨ ∀ g, f.x.ownBlock = some g → S g ∨ w.heap.size ≤ g) (hn : p'.fs.map PF.nm = p.fs.map PF.nm) : Rdo (Ytbjnhohfdpdcnaa.grew S w w') w' B p' (.slice (some ⟨g, 0, none⟩) fs.length cap) fs' l := by
  refine h.step hO rd' (fun g' hg' => .inl (h.Sv g' hg')) hf ?_
  rcases h.lt0 with e | ⟨f, hf, e⟩
  · exact .inl e
  · right
    have : l ∈ p'.fs.map PF.nm := by rw [hn, ← e]; exact List.mem_map_of_mem hf
    obtain ⟨q, hq, e2⟩ := List.mem_map.1 this
    exact ⟨q, hq, e2⟩
theorem map_nm {G : PF → PF} (h : ∀ q, (G q).nm = q.nm) (ps : List PF) : (ps.map G).map PF.nm = ps.map PF.nm := by
  rw [List.map_map]
  exact List.map_congr_left fun q _ => h q

set_option maxRecDepth 100000 in
set_option maxHeartbeats 8000000 in
theorem refSync {S : Nat → Prop} {w : World} {B : Nat} {p : PD} (h : RDs S w B p) (hg : Good p) (nm : List UInt8) :
    Calls Try.prog 35 #[.pointer (some ⟨B, 0, none⟩), .string ⟨nm.toArray⟩] w fun r w' => RDone S w B (doSync p nm) r w' := by
  obtain ⟨v, fs, l, h⟩ := h
  obtain ⟨k0, k1, k2, k3, f0, f1, f2, f3⟩ := h.rd.cells
  have HH : Hid (Rdo S w B p v fs l) := h
  have HS := says_nm h.rd.sy nm
  obtain ⟨va, vc, hv⟩ := row_shape h.rd.fi.row
  have hat := refAt_any h.rd nm
  have hsm := h.rd.sm
  cases hd : p.dn with
  | true =>
    have HE : Hid (doSync p nm = (11, p)) := by show doSync p nm = _; simp [doSync, hd]
    rw [hd] at k2
    clear h HS hd
    subst hv
    go_enter Try.func35, Try.ntmps35
    go_wp2
    go_ret
    exact RDone.mk HE.out rfl (Out.refl _ _) HH.out.grew
  | false =>
  rw [hd] at k2
  by_cases h2 : (lookP nm p.fs).isSome = true
  case neg =>
    have hnone : lookP nm p.fs = none := by simpa using h2
    have HE : Hid (doSync p nm = (8, p)) := by show doSync p nm = _; simp [doSync, hd, hnone]
    have HX : Hid (∀ f ∈ fs, f.nm ≠ nm) := fun f hf e => h2 (HS.1 ⟨f, hf, e⟩)
    clear h h2 HS hd hnone
    subst hv
    go_enter Try.func35, Try.ntmps35
    go_wp2_with (first
      | (go_at_call 53; refine hat.mono ?_; rintro r w' ⟨i, rfl, hi, hw⟩; subst w'; have hi0 : i < (0 : Int) := at_neg hi HX.out; clear hi)
      | fail)
    go_ret
    exact RDone.mk HE.out rfl (Out.refl _ _) HH.out.grew
  have HX : Hid (∃ f ∈ fs, f.nm = nm) := HS.2 h2
  have HE : Hid (doSync p nm = if p.fell then (11, p.fail) else (0, { p.fail with fs := p.fs.map (syncP nm) })) := by
    show doSync p nm = _
    simp only [doSync, hd]
    rw [if_neg (by simp), if_neg (by simp [h2])]
  have HG : Hid (Good p) := hg
  have hfl := refFails_any h.rd hg.arm
  have HP : Hid (p.fail.fs = p.fs) := pd_fail_fs p
  clear h2 HS hd
  cases hfe : p.fell with
  | true =>
    rw [hfe] at hfl
    have HFE : Hid (p.fell = true) := hfe
    clear h hfe
    subst hv
    go_enter Try.func35, Try.ntmps35
    go_wp2_with (first
      | (go_at_call 53; refine hat.mono ?_; rintro r w' ⟨i, rfl, hi, hw⟩; subst w'; obtain ⟨j, rfl, hj, hjn⟩ := at_pos hi HX.out; have hi0 : (0 : Int) ≤ (j : Int) := (by omega); have hi1 : (j : Int) < (fs.length : Int) := (by omega); clear hi)
      | (go_at_call 57; refine hfl.mono ?_; rintro r w1 ⟨rfl, hR1, hO1⟩)
      | fail)
    go_ret
    exact RDone.mk (by rw [HE.out, HFE.out]; rfl) rfl (hO1.fit (X := S) HH.out.SB) (HH.out.step (hO1.fit (X := S) HH.out.SB) hR1 (fun g hg => .inl (HH.out.Sv g hg)) (fun f hf => .inl hf) (by rw [HP.out]; exact HH.out.lt0))
  | false =>
    rw [hfe] at hfl
    have HFE : Hid (p.fell = false) := hfe
    clear h hfe
    subst hv
    go_enter Try.func35, Try.ntmps35
    go_wp2_with (first
      | (go_at_call 53; refine hat.mono ?_; rintro r w' ⟨i, rfl, hi, hw⟩; subst w'; obtain ⟨j, rfl, hj, hjn⟩ := at_pos hi HX.out; have hi0 : (0 : Int) ≤ (j : Int) := (by omega); have hi1 : (j : Int) < (fs.length : Int) := (by omega); clear hi)
      | (go_at_call 57; refine hfl.mono ?_; rintro r w1 ⟨rfl, hR1, hO1⟩)
      | fail)
    obtain ⟨f, hf⟩ : ∃ f, fs.getD j nilFl = f := ⟨_, rfl⟩
    have HF : Hid (fs.getD j nilFl = f) := hf
    have HJN : Hid ((fs.getD j nilFl).nm = nm) := hjn
    obtain ⟨g, gc, hv2, hg1, hg2, hgB, hat2, hfz, ⟨cs, hcs⟩⟩ := hR1.at hj
    cases hv2
    rw [hf] at hat2
    obtain ⟨c0, c1, c2, csl⟩ := hat2
    unfold Fl.x at c1 csl
    obtain ⟨m0, -⟩ := hR1.cells
    have z2 := hfz (j * 3 + 2)
    have hA : (⟨g, j * 3 + 1, none⟩ : Addr) ≠ ⟨g, j * 3 + 2, none⟩ := by simp
    have hA2 : ¬ (j * 3 + 1 = j * 3 + 2) := by omega
    have hA3 : ¬ (j * 3 + 2 = j * 3 + 1) := by omega
    clear hf hjn hcs hat hfl f0 f1 f2 f3 k0 k1 k2 k3
    go_region
    go_wp2
    go_ret
    have hne : p.fail.fs.Pairwise (fun f g => f.nm ≠ g.nm) := by rw [HP.out]; exact rise_ne HG.out.rise
    have hR5 := RD.put2 (nm := nm) (s := (f.dat.length : Int)) hR1.drew hgB hne hj HJN.out (syncP nm) (fun q hq => by unfold syncP; rw [if_neg (by simpa using hq)]) (fun q hq e => by
      have hq1 : q.nm = nm := by simp only [Fl.says, PF.says, Prod.mk.injEq] at e; rw [e.1, HJN.out]
      simp only [Fl.says, PF.says, Prod.mk.injEq] at e
      unfold syncP
      rw [if_pos (by simpa using hq1)]
      simp only [PF.says, Prod.mk.injEq]
      rw [e.2.1, HF.out]
      exact ⟨hq1, rfl, rfl⟩) (fun q => by unfold syncP; split <;> exact ⟨rfl, rfl⟩)
    rw [HP.out] at hR5
    have hO5 : Out S w (w1.drew.setCell ⟨g, j * 3 + 2, none⟩ (.int .i64 (f.dat.length : Int))) := ((hO1.fit (X := S) HH.out.SB).trans (Out.of_below (X := S) (b := w1.drew) ⟨rfl, rfl, rfl, Nat.le_refl _, fun _ _ => rfl⟩) (fun i hi _ => hi)).trans (Out.set (X := S) (HH.out.Sv g rfl)) (fun i hi _ => hi)
    refine RDone.mk (by rw [HE.out, HFE.out]; rfl) rfl hO5 (HH.out.row hO5 hR5 (fun x hx => ?_) (map_nm (fun q => by unfold syncP; split <;> rfl) _))
    rcases mem_set_fl hx with rfl | hx
    · exact .inr (fun g' hg' => .inl (HH.out.Sf _ (getD_mem hj) g' hg'))
    · exact .inl hx
end Go.Proofs.Ytbjnhohfdpdcnaa
