/-
  The document's disk: Append.
-/
import Derived.Test.YtbjnhohfdpdcnaaRd8
import Derived.Deep.RegionHeld3
namespace Go.Proofs.Ytbjnhohfdpdcnaa
open Go.RowKit Go.Shelf
set_option linter.unusedVariables false

theorem RD.put1 {w : World} {B g cap j : Nat} {p : PD} {fs : List Fl} {l nm dat : List UInt8} {a : Option Addr} {c : Nat} (h : RD 0 w B p (.slice (some ⟨g, 0, none⟩) fs.length cap) fs l) (hgB : g ≠ B) (hr : p.fs.Pairwise (fun f g => f.nm ≠ g.nm)) (hj : j < fs.length) (hnm : (fs.getD j nilFl).nm = nm) (hO : Ow 0 w (.slice a dat.length c) dat)
    (G : PF → PF) (hG : ∀ q, q.nm ≠ nm → (G q).says = q.says) (hG2 : ∀ q ∈ p.fs, q.says = (fs.getD j nilFl).says → (G q).says = (nm, dat, (fs.getD j nilFl).syn)) (hGl : ∀ q, (G q).nm = q.nm ∧ (G q).late = q.late) (hsum : sumF fs + dat.length ≤ 16777216 + (fs.getD j nilFl).dat.length) :
    RD 0 (w.setCell ⟨g, j * 3 + 1, none⟩ (.slice a dat.length c)) B { p with fs := p.fs.map G } (.slice (some ⟨g, 0, none⟩) fs.length cap) (fs.set j ⟨(fs.getD j nilFl).nm, a, c, dat, (fs.getD j nilFl).syn⟩) l := by
  have hsy := says_set (f' := ⟨(fs.getD j nilFl).nm, a, c, dat, (fs.getD j nilFl).syn⟩) G h.sy hr hj hnm hG (fun q hq e => by rw [hG2 q hq e]; simp [Fl.says]; exact hnm)
  refine ⟨Nat.zero_le _, (Out.set (X := (· = g)) rfl).block B h.lt (fun e => hgB e.symm) |>.trans h.hd, FilesIn.set1 h.fi hj hO, hsy, by rw [List.length_set]; exact h.fw, ?_, ?_⟩
  · have h1 := sum_says hsy
    have h2 := sumF_set (f' := ⟨(fs.getD j nilFl).nm, a, c, dat, (fs.getD j nilFl).syn⟩) hj
    show sumP (p.fs.map G) ≤ _
    simp only at h2
    omega
  · intro f hf
    obtain ⟨q, hq, rfl⟩ := List.mem_map.1 hf
    rw [(hGl q).1, (hGl q).2]
    exact h.la q hq
theorem RD.put2 {w : World} {B g cap j : Nat} {p : PD} {fs : List Fl} {l nm : List UInt8} {s : Int} (h : RD 0 w B p (.slice (some ⟨g, 0, none⟩) fs.length cap) fs l) (hgB : g ≠ B) (hr : p.fs.Pairwise (fun f g => f.nm ≠ g.nm)) (hj : j < fs.length) (hnm : (fs.getD j nilFl).nm = nm)
    (G : PF → PF) (hG : ∀ q, q.nm ≠ nm → (G q).says = q.says) (hG2 : ∀ q ∈ p.fs, q.says = (fs.getD j nilFl).says → (G q).says = (nm, (fs.getD j nilFl).dat, s)) (hGl : ∀ q, (G q).nm = q.nm ∧ (G q).late = q.late) :
    RD 0 (w.setCell ⟨g, j * 3 + 2, none⟩ (.int .i64 s)) B { p with fs := p.fs.map G } (.slice (some ⟨g, 0, none⟩) fs.length cap) (fs.set j { fs.getD j nilFl with syn := s }) l := by
  have hsy := says_set (f' := { fs.getD j nilFl with syn := s }) G h.sy hr hj hnm hG (fun q hq e => by rw [hG2 q hq e]; simp [Fl.says]; exact hnm)
  refine ⟨Nat.zero_le _, (Out.set (X := (· = g)) rfl).block B h.lt (fun e => hgB e.symm) |>.trans h.hd, FilesIn.set2 h.fi hj s, hsy, by rw [List.length_set]; exact h.fw, ?_, ?_⟩
  · obtain ⟨f', hf'⟩ : ∃ f', f' = ({ fs.getD j nilFl with syn := s } : Fl) := ⟨_, rfl⟩
    have hdat : f'.dat.length = (fs.getD j nilFl).dat.length := by rw [hf']
    rw [← hf'] at hsy
    have h1 := sum_says hsy
    have h2 := sumF_set (f' := f') hj
    have h3 := sum_says h.sy
    have h4 := h.sm
    show sumP (p.fs.map G) ≤ _
    omega
  · intro f hf
    obtain ⟨q, hq, rfl⟩ := List.mem_map.1 hf
    rw [(hGl q).1, (hGl q).2]
    exact h.la q hq
theorem RD.late {N : Nat} {w : World} {B : Nat} {p : PD} {v : Value} {fs : List Fl} {l : List UInt8} (h : RD N w B p v fs l) (nm : List UInt8) : RD N (w.setCell ⟨B, 3, none⟩ (.string ⟨nm.toArray⟩)) B { p with fs := p.fs.map (appP nm []) } v fs nm := by
  have hset : Out (· = B) w (w.setCell ⟨B, 3, none⟩ (.string ⟨nm.toArray⟩)) := Out.set rfl
  have hs : (p.fs.map (appP nm [])).map PF.says = p.fs.map PF.says := by
    rw [List.map_map]
    refine List.map_congr_left fun q _ => ?_
    show (appP nm [] q).says = q.says
    unfold appP PF.says
    split <;> simp
  refine ⟨h.le, by simpa using heap_set h.hd 3 (.string ⟨nm.toArray⟩), ⟨row_out h.fi.row hset (fun g hg e => ?_), fun f hf => (h.fi.own f hf).out hset (fun g hg e => (h.fi.own f hf).not_at h.hd (by decide) (by rw [hg, e]))⟩, by rw [h.sy, hs], h.fw, ?_, ?_⟩
  · rcases h.fi.row.2 with ⟨rfl, _⟩ | ⟨g', cap, cur, rfl, _, hgb, _⟩
    · simp [Value.ownBlock] at hg
    · simp [Value.ownBlock] at hg
      subst hg e
      rw [h.hd] at hgb
      cases hgb
  · have h1 := sum_says (h.sy.trans hs.symm)
    have h2 := sum_says h.sy
    have := h.sm
    show sumP (p.fs.map (appP nm [])) ≤ _
    omega
  · intro f hf
    obtain ⟨q, hq, rfl⟩ := List.mem_map.1 hf
    unfold appP
    split
    · rename_i e; exact e.symm
    · rename_i e; simpa using e
def behP (nm b : List UInt8) (q : PF) : PF := if q.nm == nm then { q with dat := q.dat ++ b } else q
theorem app_eq (p : PD) (nm b : List UInt8) : ({ ({ p with fs := p.fs.map (appP nm []) } : PD).fail with fs := ({ p with fs := p.fs.map (appP nm []) } : PD).fail.fs.map (behP nm b) } : PD) = { p.fail with fs := p.fs.map (appP nm b) } := by
  have e : ∀ q, behP nm b (appP nm [] q) = appP nm b q := fun q => by
    unfold behP appP
    by_cases h : (q.nm == nm) = true
    · simp [h]
    · simp [h]
  have e2 : (p.fs.map (appP nm [])).map (behP nm b) = p.fs.map (appP nm b) := by
    rw [List.map_map]
    exact List.map_congr_left fun q _ => e q
  rw [pd_fail_fs]
  unfold PD.fail
  by_cases h : p.arm = 0
  · simp only [h, if_true]; rw [e2]
  · simp only [h, if_false]; rw [e2]
theorem app_ne (nm b : List UInt8) {ps : List PF} (h : ps.Pairwise (fun f g => f.nm ≠ g.nm)) : (ps.map (appP nm b)).Pairwise (fun f g => f.nm ≠ g.nm) := by
  rw [List.pairwise_map]
  refine h.imp fun {f g} hne => ?_
  have e : ∀ q, (appP nm b q).nm = q.nm := fun q => by unfold appP; split <;> rfl
  rw [e, e]; exact hne
theorem frozen_below {N : Nat} {w w' : World} (hB : Below N w w') {b o : Nat} (hb : b < N) : w'.frozen? ⟨b, o, none⟩ = w.frozen? ⟨b, o, none⟩ := by
  simp only [World.frozen?, hB.block b hb]
/-- Behind the writing of a file's bytes. -/
theorem app_done {S : Nat → Prop} {w w2 w4 : World} {B g cap j : Nat} {p : PD} {fs : List Fl} {l nm b dat : List UInt8} {a : Option Addr} {c : Nat} (h : Rdo S w B p (.slice (some ⟨g, 0, none⟩) fs.length cap) fs l) (hg : Good p) (hj : j < fs.length) (hnm : (fs.getD j nilFl).nm = nm) (hgB : g ≠ B)
    (hR2 : RD 0 w2 B ({ p with fs := p.fs.map (appP nm []) } : PD).fail (.slice (some ⟨g, 0, none⟩) fs.length cap) fs nm) (hO2 : Out S w w2) (hB4 : Below w2.heap.size w2 w4) (hO : Ow w2.heap.size w4 (.slice a dat.length c) dat) (hd : dat = (fs.getD j nilFl).dat ++ b) (hsum : b.length + sumP p.fs ≤ 16777216) :
    Out S w (w4.setCell ⟨g, j * 3 + 1, none⟩ (.slice a dat.length c)) ∧ Rdo (grew S w (w4.setCell ⟨g, j * 3 + 1, none⟩ (.slice a dat.length c))) (w4.setCell ⟨g, j * 3 + 1, none⟩ (.slice a dat.length c)) B { p.fail with fs := p.fs.map (appP nm b) } (.slice (some ⟨g, 0, none⟩) fs.length cap) (fs.set j ⟨(fs.getD j nilFl).nm, a, c, dat, (fs.getD j nilFl).syn⟩) nm := by
  have hR4 := hR2.out (X := fun _ => False) (Out.of_below hB4) (fun h => h) (fun _ _ h => h) (fun _ _ _ _ h => h)
  have hSg : S g := h.Sv g rfl
  have hOS : Out S w (w4.setCell ⟨g, j * 3 + 1, none⟩ (.slice a dat.length c)) := (hO2.trans (Out.of_below (X := S) hB4) (fun i hi _ => hi)).trans (Out.set (X := S) hSg) (fun i hi _ => hi)
  refine ⟨hOS, ?_⟩
  have e0 := app_eq p nm b
  have hne : ({ p with fs := p.fs.map (appP nm []) } : PD).fail.fs.Pairwise (fun f g => f.nm ≠ g.nm) := by rw [pd_fail_fs]; exact app_ne nm [] (rise_ne hg.rise)
  have hR5 := RD.put1 (nm := nm) (dat := dat) (a := a) (c := c) hR4 hgB hne hj hnm (hO.base (Nat.zero_le _)) (behP nm b) (fun q hq => by unfold behP; rw [if_neg (by simpa using hq)]) (fun q hq e => ?_) (fun q => by unfold behP; split <;> exact ⟨rfl, rfl⟩) (by have h1 := sum_says h.rd.sy; rw [hd, List.length_append]; omega)
  · rw [e0] at hR5
    refine h.step hOS hR5 (fun g' hg' => .inl (h.Sv g' hg')) (fun f hf => ?_) (.inr ?_)
    · rcases mem_set_fl hf with rfl | hf
      · refine .inr (fun g' hg' => .inr ?_)
        have h1 := (World.ownsRow.lt hO g' hg').1
        have := hO2.size
        omega
      · exact .inl hf
    · obtain ⟨q, hq1, hq2, hq3⟩ := look_at h.rd.sy hj (rise_ne hg.rise)
      refine ⟨appP nm b q, List.mem_map_of_mem hq2, ?_⟩
      have : q.nm = nm := by simp only [Fl.says, PF.says, Prod.mk.injEq] at hq3; rw [hq3.1, hnm]
      unfold appP
      split <;> exact this
  · have hq1 : q.nm = nm := by simp only [Fl.says, PF.says, Prod.mk.injEq] at e; rw [e.1, hnm]
    simp only [Fl.says, PF.says, Prod.mk.injEq] at e
    unfold behP
    rw [if_pos (by simpa using hq1)]
    simp [PF.says, hq1, e.2.1, e.2.2, hd]

set_option maxRecDepth 100000 in
set_option maxHeartbeats 8000000 in
theorem refAppend {S : Nat → Prop} {w : World} {B : Nat} {p : PD} (h : RDs S w B p) (hg : Good p) (nm : List UInt8) (a : Option Addr) (cap : Nat) (b : List UInt8) (hx : SlX S w (.slice a b.length cap) b) :
    Calls Try.prog 22 #[.pointer (some ⟨B, 0, none⟩), .string ⟨nm.toArray⟩, .slice a b.length cap] w fun r w' => RDone S w B (doAppend p nm b) r w' := by
  obtain ⟨v, fs, l, h⟩ := h
  obtain ⟨k0, k1, k2, k3, f0, f1, f2, f3⟩ := h.rd.cells
  have HH : Hid (Rdo S w B p v fs l) := h
  have HS := says_nm h.rd.sy nm
  obtain ⟨va, vc, hv⟩ := row_shape h.rd.fi.row
  have hcm : b.length ≤ cap ∧ cap ≤ 9223372036854775807 := by
    obtain ⟨a1, cap1, e, q1, q2, _⟩ := hx
    cases e
    unfold maxLen at q2
    omega
  obtain ⟨hcl, hcm⟩ := hcm
  have hat := refAt_any h.rd nm
  have hsz := refSize_any h.rd
  have hsm := h.rd.sm
  cases hd : p.dn with
  | true =>
    have HE : Hid (doAppend p nm b = (11, p)) := by show doAppend p nm b = _; simp [doAppend, hd]
    rw [hd] at k2
    clear h HS hd hx
    subst hv
    go_enter Try.func22, Try.ntmps22
    go_wp2
    go_ret
    exact RDone.mk HE.out rfl (Out.refl _ _) HH.out.grew
  | false =>
  rw [hd] at k2
  by_cases h2 : (lookP nm p.fs).isSome = true
  case neg =>
    have HE : Hid (doAppend p nm b = (8, p)) := by show doAppend p nm b = _; simp only [doAppend, hd]; rw [if_neg (by simp), if_pos (by simpa using h2)]
    have HX : Hid (∀ f ∈ fs, f.nm ≠ nm) := fun f hf e => h2 (HS.1 ⟨f, hf, e⟩)
    clear h h2 HS hd hx
    subst hv
    go_enter Try.func22, Try.ntmps22
    go_wp2_with (first
      | (go_at_call 53; refine hat.mono ?_; rintro r w' ⟨i, rfl, hi, hw⟩; subst w'; have hi0 : i < (0 : Int) := at_neg hi HX.out; clear hi)
      | fail)
    go_ret
    exact RDone.mk HE.out rfl (Out.refl _ _) HH.out.grew
  have HX : Hid (∃ f ∈ fs, f.nm = nm) := HS.2 h2
  by_cases h3 : 16777216 < b.length + sumP p.fs
  · have HE : Hid (doAppend p nm b = (10, p)) := by show doAppend p nm b = _; simp only [doAppend, hd]; rw [if_neg (by simp), if_neg (by simp [h2]), if_pos h3]
    have hs0 : (0 : Int) ≤ (sumP p.fs : Int) := by omega
    clear h h2 HS hd hx
    subst hv
    go_enter Try.func22, Try.ntmps22
    go_wp2_with (first
      | (go_at_call 53; refine hat.mono ?_; rintro r w' ⟨i, rfl, hi, hw⟩; subst w'; have hi0 : (0 : Int) ≤ i := (by obtain ⟨j, rfl, -⟩ := at_pos hi HX.out; omega); clear hi)
      | (go_at_call 24; refine hsz.mono ?_; rintro r w' ⟨rfl, hw⟩; subst w')
      | fail)
    go_ret
    exact RDone.mk HE.out rfl (Out.refl _ _) HH.out.grew
  have HB : Hid (b.length + sumP p.fs ≤ 16777216) := by show _ ≤ _; omega
  have hb3 : b.length + sumP p.fs ≤ 16777216 := HB.out
  have HE : Hid (doAppend p nm b = if p.fell then (11, { p.fail with fs := p.fs.map (appP nm (b.take (b.length / 2))) }) else (0, { p.fail with fs := p.fs.map (appP nm b) })) := by
    show doAppend p nm b = _
    simp only [doAppend, hd]
    rw [if_neg (by simp), if_neg (by simp [h2]), if_neg h3]
  have HG : Hid (Good p) := hg
  have HX2 : Hid (SlX S w (.slice a b.length cap) b) := hx
  have hfl := refFails_any (h.rd.late nm) hg.arm
  have HO1 : Hid (Out S w (w.setCell ⟨B, 3, none⟩ (.string ⟨nm.toArray⟩))) := Out.set h.SB
  have hs0 : (0 : Int) ≤ (sumP p.fs : Int) := by omega
  clear h2 h3 HS hd hx
  cases hfe : p.fell with
  | true =>
    obtain ⟨hh, hhe⟩ : ∃ hh : Nat, b.length / 2 = hh := ⟨_, rfl⟩
    have HQ : Hid (b.length / 2 = hh) := hhe
    have hq : IntKind.i64.wrap ((b.length : Int) / 2) = (hh : Int) := by rw [IntKind.wrap_i64]; omega
    have hq2 : (hh : Int) ≤ (cap : Int) := by omega
    have hql : hh ≤ b.length := by omega
    have hq3 : (0 : Int) ≤ (hh : Int) := by omega
    clear hhe
    have e1 : ({ p with fs := p.fs.map (appP nm []) } : PD).fell = true := hfe
    rw [e1] at hfl
    have HFE : Hid (p.fell = true) := hfe
    clear h hfe e1
    subst hv
    go_enter Try.func22, Try.ntmps22
    go_wp2_with (first
      | (go_at_call 53; refine hat.mono ?_; rintro r w' ⟨i, rfl, hi, hw⟩; subst w'; obtain ⟨j, rfl, hj, hjn⟩ := at_pos hi HX.out; have hi0 : (0 : Int) ≤ (j : Int) := (by omega); clear hi)
      | (go_at_call 24; refine hsz.mono ?_; rintro r w' ⟨rfl, hw⟩; subst w')
      | (go_at_call 57; refine hfl.mono ?_; rintro r w2 ⟨rfl, hR2, hO2⟩)
      | fail)
    obtain ⟨f, hf⟩ : ∃ f, fs.getD j nilFl = f := ⟨_, rfl⟩
    have HF : Hid (fs.getD j nilFl = f) := hf
    have HJN : Hid ((fs.getD j nilFl).nm = nm) := hjn
    have hBlt := hR2.lt
    obtain ⟨g, gc, hv2, hg1, hg2, hgB, hat2, hfz, ⟨cs, hcs⟩⟩ := hR2.at hj
    have hglt : g < w2.heap.size := (Array.getElem?_eq_some_iff.1 hcs).1
    cases hv2
    rw [hf] at hat2
    obtain ⟨c0, c1, c2, csl⟩ := hat2
    unfold Fl.x at c1 csl
    obtain ⟨m0, -⟩ := hR2.cells
    have hfd : f.dat.length ≤ sumP p.fs := by have h1 := sumF_mem hj; have h2 := sum_says HH.out.rd.sy; rw [hf] at h1; omega
    have hby := bytes_any w2.heap.size (.slice f.a f.dat.length f.c) f.dat w2.drew (csl.below ⟨rfl, rfl, rfl, Nat.le_refl _, fun _ _ => rfl⟩) (Nat.le_refl _) (by omega)
    have hO2S : Out S w w2 := HO1.out.trans hO2 (fun i hi _ => by rw [hi]; exact HH.out.SB)
    have hsl2 : Sl w2.heap.size w2 (.slice a hh cap) (b.take hh) := (HX2.out.out hO2S).sl.front hh hql
    have hi1 : (j : Int) < (fs.length : Int) := by omega
    have hlen : f.dat.length + (b.take hh).length ≤ 1099511627776 := by simp only [List.length_take]; omega
    clear hf hjn hcs hat hsz hfl f0 f1 f2 f3 k0 k1 k2 k3
    go_region_law (first
        | (refine step_append_ow rfl (.tmp 42) (.tmp 47) rfl w2.heap.size w2.heap.size (.slice ba f.dat.length bc) (.slice a hh cap) f.dat (b.take hh) (by simp [Act.eval]) hO3x (by simp [Act.eval]) (hsl2.below hB3x) hlen hB3x.size ?_; intro v4 w4 q1 q2 q3; obtain ⟨da, dc, rfl, -, -⟩ := q1.shape; have hB4 : Below w2.heap.size w2 w4 := hB3x.grown q2 hB3x.size (fun j e => (World.ownsRow.lt hO3x j e).1); have n2 := (hB4.cell (p := ⟨B, 0, none⟩) hBlt).trans m0; have n3 := (hB4.cell (p := ⟨g, j * 3 + 1, none⟩) hglt).trans c1; have n4 : w4.frozen? ⟨g, j * 3 + 1, none⟩ = false := (frozen_below hB4 hglt).trans (hfz _))
        | (go_simp; go_at_call 49; refine hby.mono ?_; rintro e w3 ⟨v3, rfl, hO3, hB3⟩; obtain ⟨ba, bc, rfl, -, -⟩ := hO3.shape; have hO3x : Ow w2.heap.size w3 (.slice ba f.dat.length bc) f.dat := hO3; have hB3x : Below w2.heap.size w2 w3 := ⟨hB3.os, hB3.tape, hB3.output, hB3.size, hB3.block⟩; have n0 := (hB3x.cell (p := ⟨B, 0, none⟩) hBlt).trans m0; have n1 := (hB3x.cell (p := ⟨g, j * 3 + 1, none⟩) hglt).trans c1)
        | fail)
    all_goals (go_wp2; go_ret; obtain ⟨hO5, hR5⟩ := app_done (b := b.take hh) (dat := f.dat ++ b.take hh) HH.out HG.out hj HJN.out hgB hR2 hO2S hB4 q1 (by rw [HF.out]) (by have := HB.out; simp only [List.length_take]; omega); have elen : (f.dat ++ b.take hh).length = f.dat.length + hh := (by simp; omega); rw [elen] at hO5 hR5; exact RDone.mk (by rw [HE.out, HFE.out, HQ.out]; rfl) rfl hO5 hR5)
  | false =>
    have e1 : ({ p with fs := p.fs.map (appP nm []) } : PD).fell = false := hfe
    rw [e1] at hfl
    have HFE : Hid (p.fell = false) := hfe
    clear h hfe e1
    subst hv
    go_enter Try.func22, Try.ntmps22
    go_wp2_with (first
      | (go_at_call 53; refine hat.mono ?_; rintro r w' ⟨i, rfl, hi, hw⟩; subst w'; obtain ⟨j, rfl, hj, hjn⟩ := at_pos hi HX.out; have hi0 : (0 : Int) ≤ (j : Int) := (by omega); clear hi)
      | (go_at_call 24; refine hsz.mono ?_; rintro r w' ⟨rfl, hw⟩; subst w')
      | (go_at_call 57; refine hfl.mono ?_; rintro r w2 ⟨rfl, hR2, hO2⟩)
      | fail)
    obtain ⟨f, hf⟩ : ∃ f, fs.getD j nilFl = f := ⟨_, rfl⟩
    have HF : Hid (fs.getD j nilFl = f) := hf
    have HJN : Hid ((fs.getD j nilFl).nm = nm) := hjn
    have hBlt := hR2.lt
    obtain ⟨g, gc, hv2, hg1, hg2, hgB, hat2, hfz, ⟨cs, hcs⟩⟩ := hR2.at hj
    have hglt : g < w2.heap.size := (Array.getElem?_eq_some_iff.1 hcs).1
    cases hv2
    rw [hf] at hat2
    obtain ⟨c0, c1, c2, csl⟩ := hat2
    unfold Fl.x at c1 csl
    obtain ⟨m0, -⟩ := hR2.cells
    have hfd : f.dat.length ≤ sumP p.fs := by have h1 := sumF_mem hj; have h2 := sum_says HH.out.rd.sy; rw [hf] at h1; omega
    have hby := bytes_any w2.heap.size (.slice f.a f.dat.length f.c) f.dat w2.drew (csl.below ⟨rfl, rfl, rfl, Nat.le_refl _, fun _ _ => rfl⟩) (Nat.le_refl _) (by omega)
    have hO2S : Out S w w2 := HO1.out.trans hO2 (fun i hi _ => by rw [hi]; exact HH.out.SB)
    have hsl2 : Sl w2.heap.size w2 (.slice a b.length cap) b := (HX2.out.out hO2S).sl
    have hi1 : (j : Int) < (fs.length : Int) := by omega
    have hlen : f.dat.length + b.length ≤ 1099511627776 := by omega
    clear hf hjn hcs hat hsz hfl f0 f1 f2 f3 k0 k1 k2 k3
    go_region_law (first
        | (refine step_append_ow rfl (.tmp 64) (.tmp 65) rfl w2.heap.size w2.heap.size (.slice ba f.dat.length bc) (.slice a b.length cap) f.dat b (by simp [Act.eval]) hO3x (by simp [Act.eval]) (hsl2.below hB3x) hlen hB3x.size ?_; intro v4 w4 q1 q2 q3; obtain ⟨da, dc, rfl, -, -⟩ := q1.shape; have hB4 : Below w2.heap.size w2 w4 := hB3x.grown q2 hB3x.size (fun j e => (World.ownsRow.lt hO3x j e).1); have n2 := (hB4.cell (p := ⟨B, 0, none⟩) hBlt).trans m0; have n3 := (hB4.cell (p := ⟨g, j * 3 + 1, none⟩) hglt).trans c1; have n4 : w4.frozen? ⟨g, j * 3 + 1, none⟩ = false := (frozen_below hB4 hglt).trans (hfz _))
        | (go_simp; go_at_call 49; refine hby.mono ?_; rintro e w3 ⟨v3, rfl, hO3, hB3⟩; obtain ⟨ba, bc, rfl, -, -⟩ := hO3.shape; have hO3x : Ow w2.heap.size w3 (.slice ba f.dat.length bc) f.dat := hO3; have hB3x : Below w2.heap.size w2 w3 := ⟨hB3.os, hB3.tape, hB3.output, hB3.size, hB3.block⟩; have n0 := (hB3x.cell (p := ⟨B, 0, none⟩) hBlt).trans m0; have n1 := (hB3x.cell (p := ⟨g, j * 3 + 1, none⟩) hglt).trans c1)
        | fail)
    all_goals (go_wp2; go_ret; obtain ⟨hO5, hR5⟩ := app_done (b := b) (dat := f.dat ++ b) HH.out HG.out hj HJN.out hgB hR2 hO2S hB4 q1 (by rw [HF.out]) HB.out; rw [List.length_append] at hO5 hR5; exact RDone.mk (by rw [HE.out, HFE.out]; rfl) rfl hO5 hR5)
end Go.Proofs.Ytbjnhohfdpdcnaa
