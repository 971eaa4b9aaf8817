/-
  The document's disk: Create.
-/
import Derived.Test.YtbjnhohfdpdcnaaRd7
import Derived.Test.YtbjnhohfdpdcnaaJc
namespace Go.Proofs.Ytbjnhohfdpdcnaa
open Go.RowKit Go.Shelf
set_option linter.unusedVariables false

theorem delP_none {nm : List UInt8} {ps : List PF} (h : ∀ q ∈ ps, q.nm ≠ nm) : delP nm ps = ps := by
  unfold delP
  rw [List.filter_eq_self]
  intro q hq
  simpa using h q hq
theorem Out.fit {X S : Nat → Prop} {B : Nat} {w w' : World} (h : Out (· = B) w w') (hS : S B) : Out S w w' := h.mono (fun i hi => by rw [hi]; exact hS)
theorem says_no {fs : List Fl} {ps : List PF} (h : fs.map Fl.says = ps.map PF.says) {nm : List UInt8} (hn : ∀ f ∈ fs, f.nm ≠ nm) : ∀ q ∈ ps, q.nm ≠ nm := fun q hq e => by
  have : (lookP nm ps).isSome = true := by
    unfold lookP
    rw [List.find?_isSome]
    exact ⟨q, hq, by simpa using e⟩
  obtain ⟨f, hf, e2⟩ := (says_nm h nm).2 this
  exact hn f hf e2
theorem isNm_ne {nm : List UInt8} (h : isNm nm = true) : nm ≠ [] := by
  rintro rfl
  exact absurd h (by decide)
theorem at_neg {fs : List Fl} {nm : List UInt8} {i : Int} (hi : (i = -1 ∧ ∀ f ∈ fs, f.nm ≠ nm) ∨ ∃ j : Nat, i = (j : Int) ∧ j < fs.length ∧ (fs.getD j nilFl).nm = nm) (h : ∀ f ∈ fs, f.nm ≠ nm) : i < 0 := by
  rcases hi with ⟨rfl, -⟩ | ⟨j, rfl, hj, e⟩
  · omega
  · exact absurd e (h _ (getD_mem hj))
theorem at_pos {fs : List Fl} {nm : List UInt8} {i : Int} (hi : (i = -1 ∧ ∀ f ∈ fs, f.nm ≠ nm) ∨ ∃ j : Nat, i = (j : Int) ∧ j < fs.length ∧ (fs.getD j nilFl).nm = nm) (h : ∃ f ∈ fs, f.nm = nm) : ∃ j : Nat, i = (j : Int) ∧ j < fs.length ∧ (fs.getD j nilFl).nm = nm := by
  rcases hi with ⟨rfl, h2⟩ | h2
  · obtain ⟨f, hf, e⟩ := h
    exact absurd e (h2 f hf)
  · exact h2
theorem refPut {w : World} {B : Nat} {p : PD} {v : Value} {fs : List Fl} {l : List UInt8} (h : RD 0 w B p v fs l) (fn : List UInt8) (fa : Option Addr) (fc : Nat) (fd : List UInt8) (fy : Int) (hx : Ow 0 w (.slice fa fd.length fc) fd) (hfw : fs.length < 256) :
    Calls Try.prog 54 #[.pointer (some ⟨B, 0, none⟩), .agg #[.string ⟨fn.toArray⟩, .slice fa fd.length fc, .int .i64 fy]] w fun r w' => r = .returned (.tuple #[]) ∧ ∃ v', w'.heap[B]? = some (.cells #[v', .int .i64 (p.arm : Int), .bool p.dn, .string ⟨l.toArray⟩] 30 (0, 0)) ∧ FilesIn 0 w' v' (insF ⟨fn, fa, fc, fd, fy⟩ fs) ∧ Out (· = B) w w' ∧ ∀ g, v'.ownBlock = some g → w.heap.size ≤ g := by
  rcases h.fi.row.2 with ⟨hv0, h0⟩ | ⟨g, cap, cur, hv0, _⟩
  · have hfs : fs = [] := List.length_eq_zero_iff.1 h0
    subst hfs hv0
    exact refPutNil_any h fn fa fc fd fy hx (Nat.zero_le _)
  · exact refPut_any h fn fa fc fd fy hx hfw (Nat.zero_le _) g cap hv0
theorem mem_insF {f x : Fl} {fs : List Fl} (h : x ∈ insF f fs) : x = f ∨ x ∈ fs := by
  rw [insF_spot] at h
  rcases List.mem_append.1 h with h | h
  · rcases List.mem_append.1 h with h | h
    · exact .inr (List.mem_of_mem_take h)
    · exact .inl (List.mem_singleton.1 h)
  · exact .inr (List.mem_of_mem_drop h)

set_option maxRecDepth 100000 in
set_option maxHeartbeats 4000000 in
theorem refCreate {S : Nat → Prop} {w : World} {B : Nat} {p : PD} (h : RDs S w B p) (hg : Good p) (nm : List UInt8) (hn : nm.length ≤ maxLen) :
    Calls Try.prog 20 #[.pointer (some ⟨B, 0, none⟩), .string ⟨nm.toArray⟩] w fun r w' => RDone S w B (doCreate p nm) r w' := by
  obtain ⟨v, fs, l, h⟩ := h
  obtain ⟨k0, k1, k2, k3, -⟩ := h.rd.cells
  have HH : Hid (Rdo S w B p v fs l) := h
  have hlen := h.rd.len
  have HS := says_nm h.rd.sy nm
  obtain ⟨a, c, hv⟩ := row_shape h.rd.fi.row
  subst hv
  cases hd : p.dn with
  | true =>
    have HE : Hid (doCreate p nm = (11, p)) := by show doCreate p nm = _; simp [doCreate, hd]
    rw [hd] at k2
    clear h HS hlen hd
    go_enter Try.func20, Try.ntmps20
    go_wp2
    go_ret
    exact RDone.mk HE.out rfl (Out.refl _ _) HH.out.grew
  | false =>
  rw [hd] at k2
  by_cases h1 : isNm nm = false
  · have HE : Hid (doCreate p nm = (7, p)) := by show doCreate p nm = _; simp [doCreate, h1, hd]
    have HI : Hid (isNm nm = false) := h1
    clear h h1 HS hlen hd
    go_enter Try.func20, Try.ntmps20
    go_wp2_with (first
      | (go_at_call 52; refine (refName_any nm _ hn).mono ?_; rintro r w' ⟨rfl, hw⟩; subst w'; rw [HI.out])
      | fail)
    go_ret
    exact RDone.mk HE.out rfl (Out.refl _ _) HH.out.grew
  have HI : Hid (isNm nm = true) := by show isNm nm = true; simpa using h1
  have hat := refAt_any h.rd nm
  by_cases h2 : (lookP nm p.fs).isSome = true
  · have HE : Hid (doCreate p nm = (9, p)) := by show doCreate p nm = _; simp [doCreate, HI.out, h2, hd]
    have HX : Hid (∃ f ∈ fs, f.nm = nm) := HS.2 h2
    clear h h1 h2 HS hlen hd
    go_enter Try.func20, Try.ntmps20
    go_wp2_with (first
      | (go_at_call 52; refine (refName_any nm _ hn).mono ?_; rintro r w' ⟨rfl, hw⟩; subst w'; rw [HI.out])
      | (go_at_call 53; refine hat.mono ?_; rintro r w' ⟨i, rfl, hi, hw⟩; subst w'; have hi0 : (0 : Int) ≤ i := (by obtain ⟨j, rfl, -⟩ := at_pos hi HX.out; omega); clear hi)
      | fail)
    go_ret
    exact RDone.mk HE.out rfl (Out.refl _ _) HH.out.grew
  have HX : Hid (∀ f ∈ fs, f.nm ≠ nm) := fun f hf e => h2 (HS.1 ⟨f, hf, e⟩)
  by_cases h3 : 256 ≤ fs.length
  · have HE : Hid (doCreate p nm = (10, p)) := by show doCreate p nm = _; rw [hlen] at h3; simp only [doCreate, HI.out, hd]; rw [if_neg (by simp), if_neg (by simp), if_neg h2, if_pos h3]
    clear h h1 h2 HS hlen hd
    go_enter Try.func20, Try.ntmps20
    go_wp2_with (first
      | (go_at_call 52; refine (refName_any nm _ hn).mono ?_; rintro r w' ⟨rfl, hw⟩; subst w'; rw [HI.out])
      | (go_at_call 53; refine hat.mono ?_; rintro r w' ⟨i, rfl, hi, hw⟩; subst w'; have hi0 : i < (0 : Int) := at_neg hi HX.out; clear hi)
      | fail)
    go_ret
    exact RDone.mk HE.out rfl (Out.refl _ _) HH.out.grew
  have HN : Hid (∀ q ∈ p.fs, q.nm ≠ nm) := says_no h.rd.sy HX.out
  have HE : Hid (doCreate p nm = if p.fell then (11, p.fail) else (0, { p.fail with fs := insP ⟨nm, [], 0, false⟩ p.fs })) := by
    show doCreate p nm = _
    rw [hlen] at h3
    simp only [doCreate, HI.out, hd]
    rw [if_neg (by simp), if_neg (by simp), if_neg h2, if_neg h3, delP_none HN.out]
  have hfl := refFails_any h.rd hg.arm
  have HL : Hid (fs.length < 256) := by show fs.length < 256; omega
  have HLT : Hid ((nm == l) = false) := by
    show (nm == l) = false
    rcases h.lt0 with e | ⟨f, hf, e⟩
    · subst e; simpa using isNm_ne HI.out
    · have := HN.out f hf; rw [e] at this; simpa using fun e2 : nm = l => this e2.symm
  have HP : Hid (p.fail.fs = p.fs) := pd_fail_fs p
  cases hfe : p.fell with
  | true =>
    rw [hfe] at hfl
    have HFE : Hid (p.fell = true) := hfe
    clear h h1 h2 HS hlen hd hfe
    go_enter Try.func20, Try.ntmps20
    go_wp2_with (first
      | (go_at_call 52; refine (refName_any nm _ hn).mono ?_; rintro r w' ⟨rfl, hw⟩; subst w'; rw [HI.out])
      | (go_at_call 53; refine hat.mono ?_; rintro r w' ⟨i, rfl, hi, hw⟩; subst w'; have hi0 : i < (0 : Int) := at_neg hi HX.out; clear hi)
      | (go_at_call 57; refine hfl.mono ?_; rintro r w1 ⟨rfl, hR1, hO1⟩)
      | fail)
    go_ret
    exact RDone.mk (by rw [HE.out, HFE.out]; rfl) rfl (hO1.fit (X := S) HH.out.SB) (HH.out.step (hO1.fit (X := S) HH.out.SB) hR1 (fun g hg => .inl (HH.out.Sv g hg)) (fun f hf => .inl hf) (by rw [HP.out]; exact HH.out.lt0))
  | false =>
    rw [hfe] at hfl
    have HFE : Hid (p.fell = false) := hfe
    clear h h1 h2 HS hlen hd hfe
    go_enter Try.func20, Try.ntmps20
    go_wp2_with (first
      | (go_at_call 52; refine (refName_any nm _ hn).mono ?_; rintro r w' ⟨rfl, hw⟩; subst w'; rw [HI.out])
      | (go_at_call 53; refine hat.mono ?_; rintro r w' ⟨i, rfl, hi, hw⟩; subst w'; have hi0 : i < (0 : Int) := at_neg hi HX.out; clear hi)
      | (go_at_call 57; refine hfl.mono ?_; rintro r w1 ⟨rfl, hR1, hO1⟩; have hput := refPut hR1 nm none 0 [] 0 (Ow.nil _ _) HL.out)
      | (go_at_call 54; refine hput.mono ?_; rintro r w5 ⟨rfl, v5, hb5, hf5, ho5, hn5⟩)
      | fail)
    go_ret
    have hO5 : Out S w w5 := (hO1.fit (X := S) HH.out.SB).trans ho5 (fun i hi _ => by rw [hi]; exact HH.out.SB)
    have hR5 := create_rd hR1 HLT.out HX.out HL.out hb5 hf5
    rw [HP.out] at hR5
    refine RDone.mk (by rw [HE.out, HFE.out]; rfl) rfl hO5 (HH.out.step hO5 hR5 (fun g hg => .inr (Nat.le_trans hO1.size (hn5 g hg))) (fun f hf => ?_) ?_)
    · rcases mem_insF hf with rfl | hf
      · exact .inr (fun g hg => by simp [Fl.x, Value.ownBlock] at hg)
      · exact .inl hf
    · rcases HH.out.lt0 with e | ⟨f, hf, e⟩
      · exact .inl e
      · exact .inr ⟨f, mem_insP.2 (.inr hf), e⟩
end Go.Proofs.Ytbjnhohfdpdcnaa
