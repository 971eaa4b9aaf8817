/-
  The document's disk: Rename.
-/
import Derived.Test.YtbjnhohfdpdcnaaRe4
namespace Go.Proofs.Ytbjnhohfdpdcnaa
open Go.RowKit Go.Shelf
set_option linter.unusedVariables false

theorem Out.put {X : Nat → Prop} {w a : World} {b o : Nat} {u : Value} (h : Out X w a) (hb : X b) : Out X w (a.setCell ⟨b, o, none⟩ u) := h.trans (Out.set (X := X) hb) (fun i hi _ => hi)
theorem RD.move {w w' : World} {B b0 : Nat} {p : PD} {v : Value} {fs : List Fl} {l l' : List UInt8} (h : RD 0 w B p v fs l) (hO : Out (fun i => i = B ∨ i = b0) w w') (hd : w'.heap[B]? = some (.cells #[v, .int .i64 (p.arm : Int), .bool p.dn, .string ⟨l'.toArray⟩] 30 (0, 0))) (hv : ∀ g, v.ownBlock = some g → g ≠ b0) (hf : ∀ f ∈ fs, ∀ g, f.x.ownBlock = some g → g ≠ b0) (hla : ∀ f ∈ p.fs, f.late = (f.nm == l')) : RD 0 w' B p v fs l' := by
  refine ⟨Nat.zero_le _, hd, ⟨row_out h.fi.row hO (fun g hg e => ?_), fun f hf' => (h.fi.own f hf').out hO (fun g hg e => ?_)⟩, h.sy, h.fw, h.sm, hla⟩
  · rcases e with e | e
    · rcases h.fi.row.2 with ⟨hv0, _⟩ | ⟨g', cap, cur, hv0, _, hgb, _⟩
      · rw [hv0] at hg; simp [Value.ownBlock] at hg
      · rw [hv0] at hg
        simp [Value.ownBlock] at hg
        subst hg e
        rw [h.hd] at hgb
        cases hgb
    · exact hv g hg e
  · rcases e with e | e
    · exact (h.fi.own f hf').not_at h.hd (by decide) (by rw [hg, e])
    · exact hf f hf' g hg e
/-- A file is put in. -/
theorem RD.ins {w w' : World} {B : Nat} {p : PD} {v v' : Value} {fs : List Fl} {l : List UInt8} (h : RD 0 w B p v fs l) (f : Fl) (g : PF) (hfg : f.says = g.says) (hno : ∀ q ∈ p.fs, q.nm ≠ g.nm) (hlate : g.late = (g.nm == l)) (hlen : fs.length < 256) (hsum : g.dat.length + sumP p.fs ≤ 16777216)
    (hd : w'.heap[B]? = some (.cells #[v', .int .i64 (p.arm : Int), .bool p.dn, .string ⟨l.toArray⟩] 30 (0, 0))) (hfi : FilesIn 0 w' v' (insF f fs)) : RD 0 w' B { p with fs := insP g p.fs } v' (insF f fs) l := by
  refine ⟨Nat.zero_le _, hd, hfi, insF_says f g hfg h.sy hno, by rw [len_ins]; omega, ?_, fun x hx => ?_⟩
  · show sumP (insP g p.fs) ≤ _
    rw [sumP_insP]
    exact hsum
  · rcases mem_insP.1 hx with rfl | hx
    · exact hlate
    · exact h.la x hx
theorem sum_del {q : PF} : ∀ {ps : List PF}, q ∈ ps → q.dat.length + sumP (delP q.nm ps) ≤ sumP ps
  | [], h => by simp at h
  | y :: t, h => by
    by_cases e : (y.nm == q.nm) = true
    · have e1 : delP q.nm (y :: t) = delP q.nm t := by simp [delP, e]
      rw [e1]
      rcases List.mem_cons.1 h with rfl | h'
      · have := sumP_delP q.nm t
        simp only [sumP, List.map_cons, List.sum_cons] at *
        omega
      · have := sum_del h'
        simp only [sumP, List.map_cons, List.sum_cons] at *
        omega
    · have e1 : delP q.nm (y :: t) = y :: delP q.nm t := by simp [delP, e]
      rw [e1]
      rcases List.mem_cons.1 h with rfl | h'
      · exact absurd (by simp) e
      · have := sum_del h'
        simp only [sumP, List.map_cons, List.sum_cons] at *
        omega
theorem del_three (nm to : List UInt8) (ps : List PF) : delP to (delP nm (delP to ps)) = delP to (delP nm ps) := by
  unfold delP
  rw [List.filter_filter, List.filter_filter, List.filter_filter]
  refine List.filter_congr fun x _ => ?_
  cases (x.nm == to) <;> simp
def lateTo (l nm to : List UInt8) : List UInt8 := if l = to then [] else if l = nm then to else l
theorem late_else {p : PD} (hg : Good p) {l nm to : List UInt8} (hla : ∀ f ∈ p.fs, f.late = (f.nm == l)) : ∀ f ∈ delP to (delP nm p.fs), f.late = (f.nm == lateTo l nm to) := fun f hf => by
  obtain ⟨h1, h2⟩ := del_mem.1 hf
  obtain ⟨h1, h3⟩ := del_mem.1 h1
  rw [hla f h1]
  have h4 := isNm_ne (hg.nms f h1)
  unfold lateTo
  split
  · rename_i e; rw [e, show (f.nm == to) = false from by simpa using h2, show (f.nm == []) = false from by simpa using h4]
  · split
    · rename_i e; rw [e, show (f.nm == nm) = false from by simpa using h3, show (f.nm == to) = false from by simpa using h2]
    · rfl
theorem ne_pair {ps : List PF} (h : ps.Pairwise (fun f g => f.nm ≠ g.nm)) (nm : List UInt8) : (delP nm ps).Pairwise (fun f g => f.nm ≠ g.nm) := h.filter _
/-- What Rename leaves. -/
theorem ren_done {S : Nat → Prop} {w wf w' : World} {B : Nat} {p : PD} {v vf v' : Value} {fs fsf : List Fl} {l nm to : List UInt8} {q : PF} {f : Fl} (h : Rdo S w B p v fs l) (hG : Good p) (hq : lookP nm p.fs = some q) (hqs : q.says = f.says) (hne : nm ≠ to) (hto : isNm to = true)
    (hRf : RD 0 wf B { p.fail with fs := delP to (delP nm p.fs) } vf fsf (lateTo l nm to)) (hlen : fsf.length < 256) (hO : Out (· = B) w w') (hd : w'.heap[B]? = some (.cells #[v', .int .i64 (p.fail.arm : Int), .bool p.fail.dn, .string ⟨(lateTo l nm to).toArray⟩] 30 (0, 0))) (hfi : FilesIn 0 w' v' (insF ⟨to, f.a, f.c, f.dat, f.syn⟩ fsf)) (hn : ∀ g, v'.ownBlock = some g → w.heap.size ≤ g) (hm : ∀ x ∈ fsf, x ∈ fs) (hfm : f ∈ fs)
    (hE : doRename p nm to = (0, { p.fail with fs := insP { q with nm := to } (delP to (delP nm (delP to p.fs))) })) : RDone S w B (doRename p nm to) (.returned (.int .i64 0)) w' := by
  have hqm := List.mem_of_find?_eq_some hq
  have hqn : q.nm = nm := by simpa using List.find?_some hq
  simp only [Fl.says, PF.says, Prod.mk.injEq] at hqs
  have hR := hRf.ins ⟨to, f.a, f.c, f.dat, f.syn⟩ { q with nm := to } (by simp only [Fl.says, PF.says, Prod.mk.injEq]; exact ⟨trivial, hqs.2.1.symm, hqs.2.2.symm⟩) (fun x hx => (del_mem.1 hx).2) (by
    show q.late = (to == lateTo l nm to)
    rw [h.rd.la q hqm, hqn]
    have h4 := isNm_ne hto
    unfold lateTo
    split
    · rename_i e; rw [e, show (nm == to) = false from by simpa using hne, show (to == []) = false from by simpa using h4]
    · rename_i e0
      split
      · rename_i e; rw [e]; simp
      · rename_i e; rw [show (nm == l) = false from by simpa using fun e2 : nm = l => e e2.symm, show (to == l) = false from by simpa using fun e2 : to = l => e0 e2.symm]) hlen (by
    show q.dat.length + sumP (delP to (delP nm p.fs)) ≤ 16777216
    have h1 := sumP_delP to (delP nm p.fs)
    have h2 := sum_del hqm
    rw [hqn] at h2
    have h3 := h.rd.sm
    omega) hd hfi
  have e : insP { q with nm := to } (delP to (delP nm p.fs)) = insP { q with nm := to } (delP to (delP nm (delP to p.fs))) := by rw [del_three]
  simp only at hR
  rw [e] at hR
  have hOS : Out S w w' := hO.fit (X := S) h.SB
  refine RDone.mk hE rfl hOS (h.step hOS hR (fun g hg => .inr (hn g hg)) (fun x hx => ?_) ?_)
  · rcases mem_insF hx with rfl | hx
    · exact .inr (fun g hg => .inl (h.Sf f hfm g hg))
    · exact .inl (hm x hx)
  · show lateTo l nm to = [] ∨ ∃ x ∈ insP { q with nm := to } (delP to (delP nm (delP to p.fs))), x.nm = lateTo l nm to
    rw [del_three]
    unfold lateTo
    split
    · exact .inl rfl
    · rename_i e0
      split
      · exact .inr ⟨_, mem_insP.2 (.inl rfl), rfl⟩
      · rename_i e1
        rcases h.lt0 with e | ⟨x, hx, e⟩
        · exact .inl e
        · exact .inr ⟨x, mem_insP.2 (.inr (del_mem.2 ⟨del_mem.2 ⟨hx, by rw [e]; exact e1⟩, by rw [e]; exact e0⟩)), e⟩
theorem heap_alloc_ne {w : World} {i : Nat} (o : Obj) (h : i ≠ w.heap.size) : (w.alloc o).heap[i]? = w.heap[i]? := by
  simp only [World.alloc, Array.getElem?_push]
  rw [if_neg h]
theorem Out.swap {X : Nat → Prop} {w : World} {a b : Obj} (h : X w.heap.size) : Out X (w.alloc a) (w.alloc b) :=
  ⟨rfl, rfl, rfl, by simp, fun i hi hx => by
    have hne : i ≠ w.heap.size := fun e => hx (by rw [e]; exact h)
    rw [heap_alloc_ne b hne, heap_alloc_ne a hne]⟩
theorem rem_in {fs : List Fl} {j : Nat} {x : Fl} (hj : j < fs.length) (hx : x ∈ fs) (hn : x.nm ≠ (fs.getD j nilFl).nm) : x ∈ remF fs j := by
  have e : fs = fs.take j ++ fs.getD j nilFl :: fs.drop (j + 1) := by rw [← drop_fl hj, List.take_append_drop]
  rw [e] at hx
  rcases List.mem_append.1 hx with hx | hx
  · exact List.mem_append.2 (.inl hx)
  · rcases List.mem_cons.1 hx with rfl | hx
    · exact absurd rfl hn
    · exact List.mem_append.2 (.inr hx)
theorem ren_put {S : Nat → Prop} {w wx WF : World} {B b0 : Nat} {p : PD} {v vx : Value} {fs fsx : List Fl} {l nm to : List UInt8} {q : PF} {f : Fl} (h : Rdo S w B p v fs l) (hG : Good p) (hq : lookP nm p.fs = some q) (hqs : q.says = f.says) (hne : nm ≠ to) (hto : isNm to = true)
    (hRx : RD 0 wx B { p.fail with fs := delP to (delP nm p.fs) } vx fsx l) (hOx : Out (· = B) w wx) (hb0 : w.heap.size ≤ b0) (hvx : ∀ g, vx.ownBlock = some g → g ≠ b0) (hlen : fsx.length < 256) (hm : ∀ x ∈ fsx, x ∈ fs) (hfm : f ∈ fs)
    (hE : doRename p nm to = (0, { p.fail with fs := insP { q with nm := to } (delP to (delP nm (delP to p.fs))) })) (hO : Out (fun i => i = B ∨ i = b0) wx WF) (hd : WF.heap[B]? = some (.cells #[vx, .int .i64 (p.fail.arm : Int), .bool p.fail.dn, .string ⟨(lateTo l nm to).toArray⟩] 30 (0, 0))) :
    Calls Try.prog 54 #[.pointer (some ⟨B, 0, none⟩), .agg #[.string ⟨to.toArray⟩, .slice f.a f.dat.length f.c, .int .i64 f.syn]] WF fun r w5 => r = .returned (.tuple #[]) ∧ RDone S w B (doRename p nm to) (.returned (.int .i64 0)) w5 := by
  have hlt : ∀ x ∈ fs, ∀ g, x.x.ownBlock = some g → g ≠ b0 := fun x hx g hg e => by
    have := (World.ownsRow.lt (h.rd.fi.own x hx) g hg).2
    omega
  have hRf := hRx.move hO hd hvx (fun x hx => hlt x (hm x hx)) (late_else hG h.rd.la)
  have hOF : Out (· = B) w WF := hOx.trans hO (fun i hi hl => hi.resolve_right (by omega))
  have hOw := (h.rd.fi.own f hfm).out hOF (fun g hg e => (h.rd.fi.own f hfm).not_at h.rd.hd (by decide) (by rw [hg, e]))
  refine (refPut hRf to f.a f.c f.dat f.syn hOw hlen).mono ?_
  rintro r w5 ⟨rfl, v5, hb5, hf5, ho5, hn5⟩
  exact ⟨rfl, ren_done h hG hq hqs hne hto hRf hlen (hOF.trans ho5 (fun i hi _ => hi)) hb5 hf5 (fun g hg => Nat.le_trans hOF.size (hn5 g hg)) hm hfm hE⟩

set_option maxRecDepth 100000 in
set_option maxHeartbeats 8000000 in
theorem refRename {S : Nat → Prop} {w : World} {B : Nat} {p : PD} (h : RDs S w B p) (hg : Good p) (nm : List UInt8) (to : List UInt8) (ht : to.length ≤ maxLen) :
    Calls Try.prog 39 #[.pointer (some ⟨B, 0, none⟩), .string ⟨nm.toArray⟩, .string ⟨to.toArray⟩] w fun r w' => RDone S w B (doRename p nm to) r w' := by
  obtain ⟨v, fs, l, h⟩ := h
  obtain ⟨k0, k1, k2, k3, f0, f1, f2, f3⟩ := h.rd.cells
  have HH : Hid (Rdo S w B p v fs l) := h
  have HS := says_nm h.rd.sy nm
  obtain ⟨va, vc, hv⟩ := row_shape h.rd.fi.row
  have hat := refAt_any h.rd nm
  have hsm := h.rd.sm
  cases hd : p.dn with
  | true =>
    have HE : Hid (doRename p nm to = (11, p)) := by show doRename p nm to = _; simp [doRename, hd]
    rw [hd] at k2
    clear h HS hd
    subst hv
    go_enter Try.func39, Try.ntmps39
    go_wp2
    go_ret
    exact RDone.mk HE.out rfl (Out.refl _ _) HH.out.grew
  | false =>
  rw [hd] at k2
  by_cases h2 : (lookP nm p.fs).isSome = true
  case neg =>
    have hnone : lookP nm p.fs = none := by simpa using h2
    have HE : Hid (doRename p nm to = (8, p)) := by show doRename p nm to = _; simp [doRename, hd, hnone]
    have HX : Hid (∀ f ∈ fs, f.nm ≠ nm) := fun f hf e => h2 (HS.1 ⟨f, hf, e⟩)
    clear h h2 HS hd hnone
    subst hv
    go_enter Try.func39, Try.ntmps39
    go_wp2_with (first
      | (go_at_call 53; refine hat.mono ?_; rintro r w' ⟨i, rfl, hi, hw⟩; subst w'; have hi0 : i < (0 : Int) := at_neg hi HX.out; clear hi)
      | fail)
    go_ret
    exact RDone.mk HE.out rfl (Out.refl _ _) HH.out.grew
  have HX : Hid (∃ f ∈ fs, f.nm = nm) := HS.2 h2
  obtain ⟨q, hq⟩ := Option.isSome_iff_exists.1 h2
  have HE : Hid (doRename p nm to = if isNm to = false then (7, p) else if p.fell then (11, p.fail) else if nm = to then (0, p.fail) else (0, { p.fail with fs := insP { q with nm := to } (delP to (delP nm (delP to p.fs))) })) := by
    show doRename p nm to = _
    simp only [doRename, hd, hq]
    rw [if_neg (by simp)]
  have HQ : Hid (lookP nm p.fs = some q) := hq
  have HG : Hid (Good p) := hg
  have hfl := refFails_any h.rd hg.arm
  have HP : Hid (p.fail.fs = p.fs) := pd_fail_fs p
  clear h2 HS hd hq
  by_cases h1 : isNm to = false
  · have HI : Hid (isNm to = false) := h1
    clear h h1
    subst hv
    go_enter Try.func39, Try.ntmps39
    go_wp2_with (first
      | (go_at_call 53; refine hat.mono ?_; rintro r w' ⟨i, rfl, hi, hw⟩; subst w'; have hi0 : (0 : Int) ≤ i := (by obtain ⟨j, rfl, -⟩ := at_pos hi HX.out; omega); clear hi hat)
      | (go_at_call 52; refine (refName_any to _ ht).mono ?_; rintro r w' ⟨rfl, hw⟩; subst w'; rw [HI.out])
      | fail)
    go_ret
    exact RDone.mk (by rw [HE.out, HI.out]; rfl) rfl (Out.refl _ _) HH.out.grew
  have HI : Hid (isNm to = true) := by show isNm to = true; simpa using h1
  clear h1
  cases hfe : p.fell with
  | true =>
    rw [hfe] at hfl
    have HFE : Hid (p.fell = true) := hfe
    clear h hfe
    subst hv
    go_enter Try.func39, Try.ntmps39
    go_wp2_with (first
      | (go_at_call 53; refine hat.mono ?_; rintro r w' ⟨i, rfl, hi, hw⟩; subst w'; have hi0 : (0 : Int) ≤ i := (by obtain ⟨j, rfl, -⟩ := at_pos hi HX.out; omega); clear hi hat)
      | (go_at_call 52; refine (refName_any to _ ht).mono ?_; rintro r w' ⟨rfl, hw⟩; subst w'; rw [HI.out])
      | (go_at_call 57; refine hfl.mono ?_; rintro r w1 ⟨rfl, hR1, hO1⟩; have hat1 := refAt_any hR1 nm; clear hfl)
      | fail)
    go_ret
    exact RDone.mk (by rw [HE.out, HI.out, HFE.out]; rfl) rfl (hO1.fit (X := S) HH.out.SB) (HH.out.step (hO1.fit (X := S) HH.out.SB) hR1 (fun g hg => .inl (HH.out.Sv g hg)) (fun f hf => .inl hf) (by rw [HP.out]; exact HH.out.lt0))
  | false =>
  rw [hfe] at hfl
  have HFE : Hid (p.fell = false) := hfe
  by_cases hnt : nm = to
  · have HNT : Hid (nm = to) := hnt
    subst hnt
    clear h hfe
    subst hv
    go_enter Try.func39, Try.ntmps39
    go_wp2_with (first
      | (go_at_call 53; refine hat.mono ?_; rintro r w' ⟨i, rfl, hi, hw⟩; subst w'; have hi0 : (0 : Int) ≤ i := (by obtain ⟨j, rfl, -⟩ := at_pos hi HX.out; omega); clear hi hat)
      | (go_at_call 52; refine (refName_any nm _ ht).mono ?_; rintro r w' ⟨rfl, hw⟩; subst w'; rw [HI.out])
      | (go_at_call 57; refine hfl.mono ?_; rintro r w1 ⟨rfl, hR1, hO1⟩; have hat1 := refAt_any hR1 nm; clear hfl)
      | fail)
    go_ret
    exact RDone.mk (by rw [HE.out, HI.out, HFE.out, if_neg (by simp), if_neg (by simp), if_pos (by simp)]) rfl (hO1.fit (X := S) HH.out.SB) (HH.out.step (hO1.fit (X := S) HH.out.SB) hR1 (fun g hg => .inl (HH.out.Sv g hg)) (fun f hf => .inl hf) (by rw [HP.out]; exact HH.out.lt0))
  have HNT : Hid (nm ≠ to) := hnt
  have hnt' : (nm == to) = false := by simpa using hnt
  have HE2 : Hid (doRename p nm to = (0, { p.fail with fs := insP { q with nm := to } (delP to (delP nm (delP to p.fs))) })) := by
    show doRename p nm to = _
    rw [HE.out, HI.out, HFE.out, if_neg (by simp), if_neg (by simp), if_neg hnt]
  have HNE : Hid (p.fail.fs.Pairwise (fun f g => f.nm ≠ g.nm)) := by show List.Pairwise _ _; rw [HP.out]; exact rise_ne HG.out.rise
  have HLN : Hid (fs.length ≤ 256) := h.rd.fw
  clear h hfe hnt HE
  subst hv
  by_cases hto : ∃ x ∈ fs, x.nm = to
  case neg =>
    have HAB2 : Hid (∀ x ∈ fs, x.nm ≠ to) := fun x hx e => hto ⟨x, hx, e⟩
    have HABS : Hid (∀ x ∈ p.fs, x.nm ≠ to) := says_no HH.out.rd.sy HAB2.out
    have hlt0 : l ≠ to := fun e => by
      rcases HH.out.lt0 with e2 | ⟨x, hx, e2⟩
      · exact isNm_ne HI.out (by rw [← e, e2])
      · exact HABS.out x hx (by rw [e2, e])
    have hlt1 : (l == to) = false := by simpa using hlt0
    by_cases hln : l = nm
    · have HLT : Hid (lateTo l nm to = to) := by show lateTo l nm to = to; unfold lateTo; rw [if_neg hlt0, if_pos hln]
      have hln2 : (l == nm) = true := by simpa using hln
      clear hto hlt0 hln
      go_enter Try.func39, Try.ntmps39
      go_wp2_with (first
        | (go_at_call 53; refine hat.mono ?_; rintro r w' ⟨i, rfl, hi, hw⟩; subst w'; have hi0 : (0 : Int) ≤ i := (by obtain ⟨j, rfl, -⟩ := at_pos hi HX.out; omega); clear hi hat)
        | (go_at_call 52; refine (refName_any to _ ht).mono ?_; rintro r w' ⟨rfl, hw⟩; subst w'; rw [HI.out])
        | (go_at_call 57; refine hfl.mono ?_; rintro r w1 ⟨rfl, hR1, hO1⟩; have hat1 := refAt_any hR1 nm; clear hfl)
        | (go_at_call 53; refine hat1.mono ?_; rintro r w' ⟨i, rfl, hi, hw⟩; subst w'; obtain ⟨j, rfl, hj, hjn⟩ := at_pos hi HX.out; obtain ⟨f, hf⟩ : ∃ f, fs.getD j nilFl = f := ⟨_, rfl⟩; have HF : Hid (fs.getD j nilFl = f) := hf; have HJN : Hid ((fs.getD j nilFl).nm = nm) := hjn; have hta := refTake hR1 hj f hf; clear hi hat1 hjn hf)
        | (go_at_call 60; refine hta.mono ?_; rintro r w2 ⟨rfl, v2, hb2, hf2, ho2, hn2⟩; clear hta; have hR2 := hR1.rem HNE.out hj HJN.out hb2 hf2 (fun f hf => hR1.la f (del_mem.1 hf).1); rw [HP.out] at hR2; have hB3 : Below w2.heap.size w2 (w2.alloc (.cells #[.string ⟨f.nm.toArray⟩, .slice f.a f.dat.length f.c, .int .i64 f.syn] 37)) := (Below.refl _ _).alloc (Nat.le_refl _) _; have hR3 := hR2.out (X := fun _ => False) (Out.of_below hB3) (fun h => h) (fun _ _ h => h) (fun _ _ _ _ h => h); have hat3 := refAt_any hR3 to; have y3 : (w2.alloc (.cells #[.string ⟨f.nm.toArray⟩, .slice f.a f.dat.length f.c, .int .i64 f.syn] 37)).cell? ⟨B, 3, none⟩ = some (.string ⟨l.toArray⟩) := hR3.cells.2.2.2.1; have y4 : (w2.alloc (.cells #[.string ⟨f.nm.toArray⟩, .slice f.a f.dat.length f.c, .int .i64 f.syn] 37)).frozen? ⟨B, 3, none⟩ = false := hR3.cells.2.2.2.2.2.2.2; have hBb : ¬ (w2.heap.size = B) := (by have := hR2.lt; omega); have hBb2 : ¬ (B = w2.heap.size) := (by have := hR2.lt; omega); have hR3' : RD 0 (w2.alloc (.cells #[.string ⟨f.nm.toArray⟩, .slice f.a f.dat.length f.c, .int .i64 f.syn] 37)) B { p.fail with fs := delP to (delP nm p.fs) } v2 (remF fs j) l := (by have e : delP to (delP nm p.fs) = delP nm p.fs := delP_none (fun x hx => HABS.out x (del_mem.1 hx).1); rw [e]; exact hR3); have hqs : q.says = f.says := (by obtain ⟨q', h1, h3, h4⟩ := look_at HH.out.rd.sy hj (rise_ne HG.out.rise); rw [HJN.out, HQ.out] at h1; cases h1; rw [h4, HF.out]); have hfm : f ∈ fs := (by rw [← HF.out]; exact getD_mem hj); have HPUT : Hid (∀ WF, Out (fun i => i = B ∨ i = w2.heap.size) (w2.alloc (.cells #[.string ⟨f.nm.toArray⟩, .slice f.a f.dat.length f.c, .int .i64 f.syn] 37)) WF → WF.heap[B]? = some (.cells #[v2, .int .i64 (p.fail.arm : Int), .bool p.fail.dn, .string ⟨(lateTo l nm to).toArray⟩] 30 (0, 0)) → Calls Try.prog 54 #[.pointer (some ⟨B, 0, none⟩), .agg #[.string ⟨to.toArray⟩, .slice f.a f.dat.length f.c, .int .i64 f.syn]] WF fun r w5 => r = .returned (.tuple #[]) ∧ RDone S w B (doRename p nm to) (.returned (.int .i64 0)) w5) := (fun WF hO hd => ren_put HH.out HG.out HQ.out hqs HNT.out HI.out hR3' ((hO1.trans ho2 (fun i hi _ => hi)).trans (Out.of_below (X := (· = B)) hB3) (fun i hi _ => hi)) (Nat.le_trans hO1.size ho2.size) (fun g hg e => (by have := (hR2.fi.row.lt g hg).2; omega)) (by have h8 := rem_len hj; have h9 := HLN.out; omega) (fun x hx => rem_mem hx) hfm HE2.out hO hd); have HHD : Hid ((w2.alloc (.cells #[.string ⟨f.nm.toArray⟩, .slice f.a f.dat.length f.c, .int .i64 f.syn] 37)).heap[B]? = some (.cells #[v2, .int .i64 (p.fail.arm : Int), .bool p.fail.dn, .string ⟨l.toArray⟩] 30 (0, 0))) := hR3.hd; clear hqs hfm hR3' hR3 hR2 hb2 hf2 hn2 HJN HF)
        | (go_at_call 53; refine hat3.mono ?_; rintro r w' ⟨i3, rfl, hi3, hw⟩; subst w'; have hi3' : i3 < (0 : Int) := at_neg hi3 (fun x hx => HAB2.out x (rem_mem hx)); clear hi3 hat3)
        | (go_at_call 54; refine (HPUT.out _ (Out.put (Out.put (Out.refl _ _) (.inl rfl)) (.inr rfl)) (by rw [HLT.out]; exact (Below.heap_setCell _ _ _ _ (fun e => hBb e.symm)).trans (by simpa using heap_set HHD.out 3 (.string ⟨to.toArray⟩)))).mono ?_; rintro r w5 ⟨rfl, hdone⟩)
        | fail)
      go_ret
      exact hdone
    · have HLT : Hid (lateTo l nm to = l) := by show lateTo l nm to = l; unfold lateTo; rw [if_neg hlt0, if_neg hln]
      have hln2 : (l == nm) = false := by simpa using hln
      clear hto hlt0 hln
      go_enter Try.func39, Try.ntmps39
      go_wp2_with (first
        | (go_at_call 53; refine hat.mono ?_; rintro r w' ⟨i, rfl, hi, hw⟩; subst w'; have hi0 : (0 : Int) ≤ i := (by obtain ⟨j, rfl, -⟩ := at_pos hi HX.out; omega); clear hi hat)
        | (go_at_call 52; refine (refName_any to _ ht).mono ?_; rintro r w' ⟨rfl, hw⟩; subst w'; rw [HI.out])
        | (go_at_call 57; refine hfl.mono ?_; rintro r w1 ⟨rfl, hR1, hO1⟩; have hat1 := refAt_any hR1 nm; clear hfl)
        | (go_at_call 53; refine hat1.mono ?_; rintro r w' ⟨i, rfl, hi, hw⟩; subst w'; obtain ⟨j, rfl, hj, hjn⟩ := at_pos hi HX.out; obtain ⟨f, hf⟩ : ∃ f, fs.getD j nilFl = f := ⟨_, rfl⟩; have HF : Hid (fs.getD j nilFl = f) := hf; have HJN : Hid ((fs.getD j nilFl).nm = nm) := hjn; have hta := refTake hR1 hj f hf; clear hi hat1 hjn hf)
        | (go_at_call 60; refine hta.mono ?_; rintro r w2 ⟨rfl, v2, hb2, hf2, ho2, hn2⟩; clear hta; have hR2 := hR1.rem HNE.out hj HJN.out hb2 hf2 (fun f hf => hR1.la f (del_mem.1 hf).1); rw [HP.out] at hR2; have hB3 : Below w2.heap.size w2 (w2.alloc (.cells #[.string ⟨f.nm.toArray⟩, .slice f.a f.dat.length f.c, .int .i64 f.syn] 37)) := (Below.refl _ _).alloc (Nat.le_refl _) _; have hR3 := hR2.out (X := fun _ => False) (Out.of_below hB3) (fun h => h) (fun _ _ h => h) (fun _ _ _ _ h => h); have hat3 := refAt_any hR3 to; have y3 : (w2.alloc (.cells #[.string ⟨f.nm.toArray⟩, .slice f.a f.dat.length f.c, .int .i64 f.syn] 37)).cell? ⟨B, 3, none⟩ = some (.string ⟨l.toArray⟩) := hR3.cells.2.2.2.1; have y4 : (w2.alloc (.cells #[.string ⟨f.nm.toArray⟩, .slice f.a f.dat.length f.c, .int .i64 f.syn] 37)).frozen? ⟨B, 3, none⟩ = false := hR3.cells.2.2.2.2.2.2.2; have hBb : ¬ (w2.heap.size = B) := (by have := hR2.lt; omega); have hBb2 : ¬ (B = w2.heap.size) := (by have := hR2.lt; omega); have hR3' : RD 0 (w2.alloc (.cells #[.string ⟨f.nm.toArray⟩, .slice f.a f.dat.length f.c, .int .i64 f.syn] 37)) B { p.fail with fs := delP to (delP nm p.fs) } v2 (remF fs j) l := (by have e : delP to (delP nm p.fs) = delP nm p.fs := delP_none (fun x hx => HABS.out x (del_mem.1 hx).1); rw [e]; exact hR3); have hqs : q.says = f.says := (by obtain ⟨q', h1, h3, h4⟩ := look_at HH.out.rd.sy hj (rise_ne HG.out.rise); rw [HJN.out, HQ.out] at h1; cases h1; rw [h4, HF.out]); have hfm : f ∈ fs := (by rw [← HF.out]; exact getD_mem hj); have HPUT : Hid (∀ WF, Out (fun i => i = B ∨ i = w2.heap.size) (w2.alloc (.cells #[.string ⟨f.nm.toArray⟩, .slice f.a f.dat.length f.c, .int .i64 f.syn] 37)) WF → WF.heap[B]? = some (.cells #[v2, .int .i64 (p.fail.arm : Int), .bool p.fail.dn, .string ⟨(lateTo l nm to).toArray⟩] 30 (0, 0)) → Calls Try.prog 54 #[.pointer (some ⟨B, 0, none⟩), .agg #[.string ⟨to.toArray⟩, .slice f.a f.dat.length f.c, .int .i64 f.syn]] WF fun r w5 => r = .returned (.tuple #[]) ∧ RDone S w B (doRename p nm to) (.returned (.int .i64 0)) w5) := (fun WF hO hd => ren_put HH.out HG.out HQ.out hqs HNT.out HI.out hR3' ((hO1.trans ho2 (fun i hi _ => hi)).trans (Out.of_below (X := (· = B)) hB3) (fun i hi _ => hi)) (Nat.le_trans hO1.size ho2.size) (fun g hg e => (by have := (hR2.fi.row.lt g hg).2; omega)) (by have h8 := rem_len hj; have h9 := HLN.out; omega) (fun x hx => rem_mem hx) hfm HE2.out hO hd); have HHD : Hid ((w2.alloc (.cells #[.string ⟨f.nm.toArray⟩, .slice f.a f.dat.length f.c, .int .i64 f.syn] 37)).heap[B]? = some (.cells #[v2, .int .i64 (p.fail.arm : Int), .bool p.fail.dn, .string ⟨l.toArray⟩] 30 (0, 0))) := hR3.hd; clear hqs hfm hR3' hR3 hR2 hb2 hf2 hn2 HJN HF)
        | (go_at_call 53; refine hat3.mono ?_; rintro r w' ⟨i3, rfl, hi3, hw⟩; subst w'; have hi3' : i3 < (0 : Int) := at_neg hi3 (fun x hx => HAB2.out x (rem_mem hx)); clear hi3 hat3)
        | (go_at_call 54; refine (HPUT.out _ (Out.swap (.inr rfl)) (by rw [HLT.out]; exact (heap_alloc_ne _ hBb2).trans ((heap_alloc_ne _ hBb2).symm.trans HHD.out))).mono ?_; rintro r w5 ⟨rfl, hdone⟩)
        | fail)
      go_ret
      exact hdone
  have HTO : Hid (∃ x ∈ fs, x.nm = to) := hto
  have hnn : (([] : List UInt8) == nm) = false := by
    have h9 := isNm_ne (HG.out.nms q (List.mem_of_find?_eq_some HQ.out))
    rw [show q.nm = nm from by simpa using List.find?_some HQ.out] at h9
    simpa using fun e : [] = nm => h9 e.symm
  by_cases hl1 : l = to
  · have HLT : Hid (lateTo l nm to = []) := by show lateTo l nm to = []; unfold lateTo; rw [if_pos hl1]
    have hl2 : (l == to) = true := by simpa using hl1
    clear hto hl1
    go_enter Try.func39, Try.ntmps39
    go_wp2_with (first
      | (go_at_call 53; refine hat.mono ?_; rintro r w' ⟨i, rfl, hi, hw⟩; subst w'; have hi0 : (0 : Int) ≤ i := (by obtain ⟨j, rfl, -⟩ := at_pos hi HX.out; omega); clear hi hat)
      | (go_at_call 52; refine (refName_any to _ ht).mono ?_; rintro r w' ⟨rfl, hw⟩; subst w'; rw [HI.out])
      | (go_at_call 57; refine hfl.mono ?_; rintro r w1 ⟨rfl, hR1, hO1⟩; have hat1 := refAt_any hR1 nm; clear hfl)
      | (go_at_call 53; refine hat1.mono ?_; rintro r w' ⟨i, rfl, hi, hw⟩; subst w'; obtain ⟨j, rfl, hj, hjn⟩ := at_pos hi HX.out; obtain ⟨f, hf⟩ : ∃ f, fs.getD j nilFl = f := ⟨_, rfl⟩; have HF : Hid (fs.getD j nilFl = f) := hf; have HJN : Hid ((fs.getD j nilFl).nm = nm) := hjn; have hta := refTake hR1 hj f hf; clear hi hat1 hjn hf)
      | (go_at_call 60; refine hta.mono ?_; rintro r w2 ⟨rfl, v2, hb2, hf2, ho2, hn2⟩; clear hta; have hR2 := hR1.rem HNE.out hj HJN.out hb2 hf2 (fun f hf => hR1.la f (del_mem.1 hf).1); rw [HP.out] at hR2; have hB3 : Below w2.heap.size w2 (w2.alloc (.cells #[.string ⟨f.nm.toArray⟩, .slice f.a f.dat.length f.c, .int .i64 f.syn] 37)) := (Below.refl _ _).alloc (Nat.le_refl _) _; have hR3 := hR2.out (X := fun _ => False) (Out.of_below hB3) (fun h => h) (fun _ _ h => h) (fun _ _ _ _ h => h); have hat3 := refAt_any hR3 to; have y3 : (w2.alloc (.cells #[.string ⟨f.nm.toArray⟩, .slice f.a f.dat.length f.c, .int .i64 f.syn] 37)).cell? ⟨B, 3, none⟩ = some (.string ⟨l.toArray⟩) := hR3.cells.2.2.2.1; have y4 : (w2.alloc (.cells #[.string ⟨f.nm.toArray⟩, .slice f.a f.dat.length f.c, .int .i64 f.syn] 37)).frozen? ⟨B, 3, none⟩ = false := hR3.cells.2.2.2.2.2.2.2; have hBb : ¬ (w2.heap.size = B) := (by have := hR2.lt; omega); have hBb2 : ¬ (B = w2.heap.size) := (by have := hR2.lt; omega); have HX3 : Hid (∃ x ∈ remF fs j, x.nm = to) := (by obtain ⟨x, hx, e⟩ := HTO.out; exact ⟨x, rem_in hj hx (by rw [e, HJN.out]; exact fun e2 => HNT.out e2.symm), e⟩); have hqs : q.says = f.says := (by obtain ⟨q', h1, h3, h4⟩ := look_at HH.out.rd.sy hj (rise_ne HG.out.rise); rw [HJN.out, HQ.out] at h1; cases h1; rw [h4, HF.out]); have hfm : f ∈ fs := (by rw [← HF.out]; exact getD_mem hj); have HQS : Hid (q.says = f.says) := hqs; have HFM : Hid (f ∈ fs) := hfm; have HR3 : Hid (RD 0 (w2.alloc (.cells #[.string ⟨f.nm.toArray⟩, .slice f.a f.dat.length f.c, .int .i64 f.syn] 37)) B { p.fail with fs := delP nm p.fs } v2 (remF fs j) l) := hR3; clear hqs hfm HF hR2 hb2 hf2 hn2 hR3)
      | (go_at_call 53; refine hat3.mono ?_; rintro r w' ⟨i3, rfl, hi3, hw⟩; subst w'; have hi3' : (0 : Int) ≤ i3 := (by obtain ⟨j9, rfl, -⟩ := at_pos hi3 HX3.out; omega); have hat4 := hat3; clear hi3 hat3)
      | (go_at_call 53; refine hat4.mono ?_; rintro r w' ⟨i4, rfl, hi4, hw⟩; subst w'; obtain ⟨j3, rfl, hj3, hjn3⟩ := at_pos hi4 HX3.out; have hta3 := refTake HR3.out hj3 _ rfl; have HJ3 : Hid ((List.getD (remF fs j) j3 nilFl).nm = to) := hjn3; clear hi4 hat4 hjn3)
      | (go_at_call 60; refine hta3.mono ?_; rintro r w4 ⟨rfl, v4, hb4, hf4, ho4, hn4⟩; clear hta3; have hR4 := HR3.out.rem (ne_pair (rise_ne HG.out.rise) nm) hj3 HJ3.out hb4 hf4 (fun f hf => HR3.out.la f (del_mem.1 hf).1); have z3 : w4.cell? ⟨B, 3, none⟩ = some (.string ⟨l.toArray⟩) := hR4.cells.2.2.2.1; have z4 : w4.frozen? ⟨B, 3, none⟩ = false := hR4.cells.2.2.2.2.2.2.2; have hfb : w4.heap[w2.heap.size]? = some (.cells #[.string ⟨f.nm.toArray⟩, .slice f.a f.dat.length f.c, .int .i64 f.syn] 37 (0, 0)) := (ho4.block w2.heap.size (by simp) hBb).trans (heap_alloc_new w2 _); have g0 : w4.cell? ⟨w2.heap.size, 0, none⟩ = some (.string ⟨f.nm.toArray⟩) := (by simp [World.cell?, hfb]); have g1 : w4.cell? ⟨w2.heap.size, 1, none⟩ = some (.slice f.a f.dat.length f.c) := (by simp [World.cell?, hfb]); have g2 : w4.cell? ⟨w2.heap.size, 2, none⟩ = some (.int .i64 f.syn) := (by simp [World.cell?, hfb]); have g3 : w4.frozen? ⟨w2.heap.size, 0, none⟩ = false := (by simp [World.frozen?, hfb]); have HPUT : Hid (∀ WF, Out (fun i => i = B ∨ i = w2.heap.size) w4 WF → WF.heap[B]? = some (.cells #[v4, .int .i64 (p.fail.arm : Int), .bool p.fail.dn, .string ⟨(lateTo l nm to).toArray⟩] 30 (0, 0)) → Calls Try.prog 54 #[.pointer (some ⟨B, 0, none⟩), .agg #[.string ⟨to.toArray⟩, .slice f.a f.dat.length f.c, .int .i64 f.syn]] WF fun r w5 => r = .returned (.tuple #[]) ∧ RDone S w B (doRename p nm to) (.returned (.int .i64 0)) w5) := (fun WF hO hd => ren_put HH.out HG.out HQ.out HQS.out HNT.out HI.out hR4 (((hO1.trans ho2 (fun i hi _ => hi)).trans (Out.of_below (X := (· = B)) hB3) (fun i hi _ => hi)).trans ho4 (fun i hi _ => hi)) (Nat.le_trans hO1.size ho2.size) (fun g hg e => (by have h9 := hn4 g hg; rw [World.size_alloc] at h9; omega)) (by have h7 := rem_len hj3; have h8 := rem_len hj; have h9 := HLN.out; omega) (fun x hx => rem_mem (rem_mem hx)) HFM.out HE2.out hO hd); have HHD : Hid (w4.heap[B]? = some (.cells #[v4, .int .i64 (p.fail.arm : Int), .bool p.fail.dn, .string ⟨l.toArray⟩] 30 (0, 0))) := hR4.hd; clear hR4 hb4 hf4 hn4 hfb)
      | (go_at_call 54; refine (HPUT.out _ (Out.put (Out.put (Out.refl _ _) (.inl rfl)) (.inr rfl)) (by rw [HLT.out]; exact (Below.heap_setCell _ _ _ _ (fun e => hBb e.symm)).trans (by simpa using heap_set HHD.out 3 (.string ⟨([] : List UInt8).toArray⟩)))).mono ?_; rintro r w5 ⟨rfl, hdone⟩)
      | fail)
    go_ret
    exact hdone
  have hl2 : (l == to) = false := by simpa using hl1
  by_cases hln : l = nm
  · have HLT : Hid (lateTo l nm to = to) := by show lateTo l nm to = to; unfold lateTo; rw [if_neg hl1, if_pos hln]
    have hln2 : (l == nm) = true := by simpa using hln
    clear hto hl1 hln
    go_enter Try.func39, Try.ntmps39
    go_wp2_with (first
      | (go_at_call 53; refine hat.mono ?_; rintro r w' ⟨i, rfl, hi, hw⟩; subst w'; have hi0 : (0 : Int) ≤ i := (by obtain ⟨j, rfl, -⟩ := at_pos hi HX.out; omega); clear hi hat)
      | (go_at_call 52; refine (refName_any to _ ht).mono ?_; rintro r w' ⟨rfl, hw⟩; subst w'; rw [HI.out])
      | (go_at_call 57; refine hfl.mono ?_; rintro r w1 ⟨rfl, hR1, hO1⟩; have hat1 := refAt_any hR1 nm; clear hfl)
      | (go_at_call 53; refine hat1.mono ?_; rintro r w' ⟨i, rfl, hi, hw⟩; subst w'; obtain ⟨j, rfl, hj, hjn⟩ := at_pos hi HX.out; obtain ⟨f, hf⟩ : ∃ f, fs.getD j nilFl = f := ⟨_, rfl⟩; have HF : Hid (fs.getD j nilFl = f) := hf; have HJN : Hid ((fs.getD j nilFl).nm = nm) := hjn; have hta := refTake hR1 hj f hf; clear hi hat1 hjn hf)
      | (go_at_call 60; refine hta.mono ?_; rintro r w2 ⟨rfl, v2, hb2, hf2, ho2, hn2⟩; clear hta; have hR2 := hR1.rem HNE.out hj HJN.out hb2 hf2 (fun f hf => hR1.la f (del_mem.1 hf).1); rw [HP.out] at hR2; have hB3 : Below w2.heap.size w2 (w2.alloc (.cells #[.string ⟨f.nm.toArray⟩, .slice f.a f.dat.length f.c, .int .i64 f.syn] 37)) := (Below.refl _ _).alloc (Nat.le_refl _) _; have hR3 := hR2.out (X := fun _ => False) (Out.of_below hB3) (fun h => h) (fun _ _ h => h) (fun _ _ _ _ h => h); have hat3 := refAt_any hR3 to; have y3 : (w2.alloc (.cells #[.string ⟨f.nm.toArray⟩, .slice f.a f.dat.length f.c, .int .i64 f.syn] 37)).cell? ⟨B, 3, none⟩ = some (.string ⟨l.toArray⟩) := hR3.cells.2.2.2.1; have y4 : (w2.alloc (.cells #[.string ⟨f.nm.toArray⟩, .slice f.a f.dat.length f.c, .int .i64 f.syn] 37)).frozen? ⟨B, 3, none⟩ = false := hR3.cells.2.2.2.2.2.2.2; have hBb : ¬ (w2.heap.size = B) := (by have := hR2.lt; omega); have hBb2 : ¬ (B = w2.heap.size) := (by have := hR2.lt; omega); have HX3 : Hid (∃ x ∈ remF fs j, x.nm = to) := (by obtain ⟨x, hx, e⟩ := HTO.out; exact ⟨x, rem_in hj hx (by rw [e, HJN.out]; exact fun e2 => HNT.out e2.symm), e⟩); have hqs : q.says = f.says := (by obtain ⟨q', h1, h3, h4⟩ := look_at HH.out.rd.sy hj (rise_ne HG.out.rise); rw [HJN.out, HQ.out] at h1; cases h1; rw [h4, HF.out]); have hfm : f ∈ fs := (by rw [← HF.out]; exact getD_mem hj); have HQS : Hid (q.says = f.says) := hqs; have HFM : Hid (f ∈ fs) := hfm; have HR3 : Hid (RD 0 (w2.alloc (.cells #[.string ⟨f.nm.toArray⟩, .slice f.a f.dat.length f.c, .int .i64 f.syn] 37)) B { p.fail with fs := delP nm p.fs } v2 (remF fs j) l) := hR3; clear hqs hfm HF hR2 hb2 hf2 hn2 hR3)
      | (go_at_call 53; refine hat3.mono ?_; rintro r w' ⟨i3, rfl, hi3, hw⟩; subst w'; have hi3' : (0 : Int) ≤ i3 := (by obtain ⟨j9, rfl, -⟩ := at_pos hi3 HX3.out; omega); have hat4 := hat3; clear hi3 hat3)
      | (go_at_call 53; refine hat4.mono ?_; rintro r w' ⟨i4, rfl, hi4, hw⟩; subst w'; obtain ⟨j3, rfl, hj3, hjn3⟩ := at_pos hi4 HX3.out; have hta3 := refTake HR3.out hj3 _ rfl; have HJ3 : Hid ((List.getD (remF fs j) j3 nilFl).nm = to) := hjn3; clear hi4 hat4 hjn3)
      | (go_at_call 60; refine hta3.mono ?_; rintro r w4 ⟨rfl, v4, hb4, hf4, ho4, hn4⟩; clear hta3; have hR4 := HR3.out.rem (ne_pair (rise_ne HG.out.rise) nm) hj3 HJ3.out hb4 hf4 (fun f hf => HR3.out.la f (del_mem.1 hf).1); have z3 : w4.cell? ⟨B, 3, none⟩ = some (.string ⟨l.toArray⟩) := hR4.cells.2.2.2.1; have z4 : w4.frozen? ⟨B, 3, none⟩ = false := hR4.cells.2.2.2.2.2.2.2; have hfb : w4.heap[w2.heap.size]? = some (.cells #[.string ⟨f.nm.toArray⟩, .slice f.a f.dat.length f.c, .int .i64 f.syn] 37 (0, 0)) := (ho4.block w2.heap.size (by simp) hBb).trans (heap_alloc_new w2 _); have g0 : w4.cell? ⟨w2.heap.size, 0, none⟩ = some (.string ⟨f.nm.toArray⟩) := (by simp [World.cell?, hfb]); have g1 : w4.cell? ⟨w2.heap.size, 1, none⟩ = some (.slice f.a f.dat.length f.c) := (by simp [World.cell?, hfb]); have g2 : w4.cell? ⟨w2.heap.size, 2, none⟩ = some (.int .i64 f.syn) := (by simp [World.cell?, hfb]); have g3 : w4.frozen? ⟨w2.heap.size, 0, none⟩ = false := (by simp [World.frozen?, hfb]); have HPUT : Hid (∀ WF, Out (fun i => i = B ∨ i = w2.heap.size) w4 WF → WF.heap[B]? = some (.cells #[v4, .int .i64 (p.fail.arm : Int), .bool p.fail.dn, .string ⟨(lateTo l nm to).toArray⟩] 30 (0, 0)) → Calls Try.prog 54 #[.pointer (some ⟨B, 0, none⟩), .agg #[.string ⟨to.toArray⟩, .slice f.a f.dat.length f.c, .int .i64 f.syn]] WF fun r w5 => r = .returned (.tuple #[]) ∧ RDone S w B (doRename p nm to) (.returned (.int .i64 0)) w5) := (fun WF hO hd => ren_put HH.out HG.out HQ.out HQS.out HNT.out HI.out hR4 (((hO1.trans ho2 (fun i hi _ => hi)).trans (Out.of_below (X := (· = B)) hB3) (fun i hi _ => hi)).trans ho4 (fun i hi _ => hi)) (Nat.le_trans hO1.size ho2.size) (fun g hg e => (by have h9 := hn4 g hg; rw [World.size_alloc] at h9; omega)) (by have h7 := rem_len hj3; have h8 := rem_len hj; have h9 := HLN.out; omega) (fun x hx => rem_mem (rem_mem hx)) HFM.out HE2.out hO hd); have HHD : Hid (w4.heap[B]? = some (.cells #[v4, .int .i64 (p.fail.arm : Int), .bool p.fail.dn, .string ⟨l.toArray⟩] 30 (0, 0))) := hR4.hd; clear hR4 hb4 hf4 hn4 hfb)
      | (go_at_call 54; refine (HPUT.out _ (Out.put (Out.put (Out.refl _ _) (.inl rfl)) (.inr rfl)) (by rw [HLT.out]; exact (Below.heap_setCell _ _ _ _ (fun e => hBb e.symm)).trans (by simpa using heap_set HHD.out 3 (.string ⟨to.toArray⟩)))).mono ?_; rintro r w5 ⟨rfl, hdone⟩)
      | fail)
    go_ret
    exact hdone
  · have HLT : Hid (lateTo l nm to = l) := by show lateTo l nm to = l; unfold lateTo; rw [if_neg hl1, if_neg hln]
    have hln2 : (l == nm) = false := by simpa using hln
    clear hto hl1 hln
    go_enter Try.func39, Try.ntmps39
    go_wp2_with (first
      | (go_at_call 53; refine hat.mono ?_; rintro r w' ⟨i, rfl, hi, hw⟩; subst w'; have hi0 : (0 : Int) ≤ i := (by obtain ⟨j, rfl, -⟩ := at_pos hi HX.out; omega); clear hi hat)
      | (go_at_call 52; refine (refName_any to _ ht).mono ?_; rintro r w' ⟨rfl, hw⟩; subst w'; rw [HI.out])
      | (go_at_call 57; refine hfl.mono ?_; rintro r w1 ⟨rfl, hR1, hO1⟩; have hat1 := refAt_any hR1 nm; clear hfl)
      | (go_at_call 53; refine hat1.mono ?_; rintro r w' ⟨i, rfl, hi, hw⟩; subst w'; obtain ⟨j, rfl, hj, hjn⟩ := at_pos hi HX.out; obtain ⟨f, hf⟩ : ∃ f, fs.getD j nilFl = f := ⟨_, rfl⟩; have HF : Hid (fs.getD j nilFl = f) := hf; have HJN : Hid ((fs.getD j nilFl).nm = nm) := hjn; have hta := refTake hR1 hj f hf; clear hi hat1 hjn hf)
      | (go_at_call 60; refine hta.mono ?_; rintro r w2 ⟨rfl, v2, hb2, hf2, ho2, hn2⟩; clear hta; have hR2 := hR1.rem HNE.out hj HJN.out hb2 hf2 (fun f hf => hR1.la f (del_mem.1 hf).1); rw [HP.out] at hR2; have hB3 : Below w2.heap.size w2 (w2.alloc (.cells #[.string ⟨f.nm.toArray⟩, .slice f.a f.dat.length f.c, .int .i64 f.syn] 37)) := (Below.refl _ _).alloc (Nat.le_refl _) _; have hR3 := hR2.out (X := fun _ => False) (Out.of_below hB3) (fun h => h) (fun _ _ h => h) (fun _ _ _ _ h => h); have hat3 := refAt_any hR3 to; have y3 : (w2.alloc (.cells #[.string ⟨f.nm.toArray⟩, .slice f.a f.dat.length f.c, .int .i64 f.syn] 37)).cell? ⟨B, 3, none⟩ = some (.string ⟨l.toArray⟩) := hR3.cells.2.2.2.1; have y4 : (w2.alloc (.cells #[.string ⟨f.nm.toArray⟩, .slice f.a f.dat.length f.c, .int .i64 f.syn] 37)).frozen? ⟨B, 3, none⟩ = false := hR3.cells.2.2.2.2.2.2.2; have hBb : ¬ (w2.heap.size = B) := (by have := hR2.lt; omega); have hBb2 : ¬ (B = w2.heap.size) := (by have := hR2.lt; omega); have HX3 : Hid (∃ x ∈ remF fs j, x.nm = to) := (by obtain ⟨x, hx, e⟩ := HTO.out; exact ⟨x, rem_in hj hx (by rw [e, HJN.out]; exact fun e2 => HNT.out e2.symm), e⟩); have hqs : q.says = f.says := (by obtain ⟨q', h1, h3, h4⟩ := look_at HH.out.rd.sy hj (rise_ne HG.out.rise); rw [HJN.out, HQ.out] at h1; cases h1; rw [h4, HF.out]); have hfm : f ∈ fs := (by rw [← HF.out]; exact getD_mem hj); have HQS : Hid (q.says = f.says) := hqs; have HFM : Hid (f ∈ fs) := hfm; have HR3 : Hid (RD 0 (w2.alloc (.cells #[.string ⟨f.nm.toArray⟩, .slice f.a f.dat.length f.c, .int .i64 f.syn] 37)) B { p.fail with fs := delP nm p.fs } v2 (remF fs j) l) := hR3; clear hqs hfm HF hR2 hb2 hf2 hn2 hR3)
      | (go_at_call 53; refine hat3.mono ?_; rintro r w' ⟨i3, rfl, hi3, hw⟩; subst w'; have hi3' : (0 : Int) ≤ i3 := (by obtain ⟨j9, rfl, -⟩ := at_pos hi3 HX3.out; omega); have hat4 := hat3; clear hi3 hat3)
      | (go_at_call 53; refine hat4.mono ?_; rintro r w' ⟨i4, rfl, hi4, hw⟩; subst w'; obtain ⟨j3, rfl, hj3, hjn3⟩ := at_pos hi4 HX3.out; have hta3 := refTake HR3.out hj3 _ rfl; have HJ3 : Hid ((List.getD (remF fs j) j3 nilFl).nm = to) := hjn3; clear hi4 hat4 hjn3)
      | (go_at_call 60; refine hta3.mono ?_; rintro r w4 ⟨rfl, v4, hb4, hf4, ho4, hn4⟩; clear hta3; have hR4 := HR3.out.rem (ne_pair (rise_ne HG.out.rise) nm) hj3 HJ3.out hb4 hf4 (fun f hf => HR3.out.la f (del_mem.1 hf).1); have z3 : w4.cell? ⟨B, 3, none⟩ = some (.string ⟨l.toArray⟩) := hR4.cells.2.2.2.1; have z4 : w4.frozen? ⟨B, 3, none⟩ = false := hR4.cells.2.2.2.2.2.2.2; have hfb : w4.heap[w2.heap.size]? = some (.cells #[.string ⟨f.nm.toArray⟩, .slice f.a f.dat.length f.c, .int .i64 f.syn] 37 (0, 0)) := (ho4.block w2.heap.size (by simp) hBb).trans (heap_alloc_new w2 _); have g0 : w4.cell? ⟨w2.heap.size, 0, none⟩ = some (.string ⟨f.nm.toArray⟩) := (by simp [World.cell?, hfb]); have g1 : w4.cell? ⟨w2.heap.size, 1, none⟩ = some (.slice f.a f.dat.length f.c) := (by simp [World.cell?, hfb]); have g2 : w4.cell? ⟨w2.heap.size, 2, none⟩ = some (.int .i64 f.syn) := (by simp [World.cell?, hfb]); have g3 : w4.frozen? ⟨w2.heap.size, 0, none⟩ = false := (by simp [World.frozen?, hfb]); have HPUT : Hid (∀ WF, Out (fun i => i = B ∨ i = w2.heap.size) w4 WF → WF.heap[B]? = some (.cells #[v4, .int .i64 (p.fail.arm : Int), .bool p.fail.dn, .string ⟨(lateTo l nm to).toArray⟩] 30 (0, 0)) → Calls Try.prog 54 #[.pointer (some ⟨B, 0, none⟩), .agg #[.string ⟨to.toArray⟩, .slice f.a f.dat.length f.c, .int .i64 f.syn]] WF fun r w5 => r = .returned (.tuple #[]) ∧ RDone S w B (doRename p nm to) (.returned (.int .i64 0)) w5) := (fun WF hO hd => ren_put HH.out HG.out HQ.out HQS.out HNT.out HI.out hR4 (((hO1.trans ho2 (fun i hi _ => hi)).trans (Out.of_below (X := (· = B)) hB3) (fun i hi _ => hi)).trans ho4 (fun i hi _ => hi)) (Nat.le_trans hO1.size ho2.size) (fun g hg e => (by have h9 := hn4 g hg; rw [World.size_alloc] at h9; omega)) (by have h7 := rem_len hj3; have h8 := rem_len hj; have h9 := HLN.out; omega) (fun x hx => rem_mem (rem_mem hx)) HFM.out HE2.out hO hd); have HHD : Hid (w4.heap[B]? = some (.cells #[v4, .int .i64 (p.fail.arm : Int), .bool p.fail.dn, .string ⟨l.toArray⟩] 30 (0, 0))) := hR4.hd; clear hR4 hb4 hf4 hn4 hfb)
      | (go_at_call 54; refine (HPUT.out _ (Out.put (Out.refl _ _) (.inr rfl)) (by rw [HLT.out]; exact (Below.heap_setCell _ _ _ _ (fun e => hBb e.symm)).trans HHD.out)).mono ?_; rintro r w5 ⟨rfl, hdone⟩)
      | fail)
    go_ret
    exact hdone
end Go.Proofs.Ytbjnhohfdpdcnaa
