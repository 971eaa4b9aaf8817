/-
  The document's disk: Cut.
-/
import Derived.Test.YtbjnhohfdpdcnaaRe1
namespace Go.Proofs.Ytbjnhohfdpdcnaa
open Go.RowKit Go.Shelf
set_option linter.unusedVariables false

def cutD (nm : List UInt8) (n : Nat) (f : PF) : PF := if f.nm == nm then { f with dat := f.dat.take n } else f
def cutS (nm : List UInt8) (n : Nat) (f : PF) : PF := if f.nm == nm then { f with syn := min f.syn n } else f
theorem cut_eq (ps : List PF) (nm : List UInt8) (n : Nat) : (ps.map (cutD nm n)).map (cutS nm n) = ps.map (cutP nm n) := by
  rw [List.map_map]
  refine List.map_congr_left fun q _ => ?_
  show cutS nm n (cutD nm n q) = cutP nm n q
  unfold cutS cutD cutP
  by_cases h : (q.nm == nm) = true
  · simp [h]
  · simp [h]
theorem cutD_ne (nm : List UInt8) (n : Nat) {ps : List PF} (h : ps.Pairwise (fun f g => f.nm ≠ g.nm)) : (ps.map (cutD nm n)).Pairwise (fun f g => f.nm ≠ g.nm) := by
  rw [List.pairwise_map]
  refine h.imp fun {f g} hne => ?_
  have e : ∀ q, (cutD nm n q).nm = q.nm := fun q => by unfold cutD; split <;> rfl
  rw [e, e]; exact hne
theorem getD_set {fs : List Fl} {j : Nat} (hj : j < fs.length) (f : Fl) : (fs.set j f).getD j nilFl = f := by
  rw [List.getD_eq_getElem?_getD, List.getElem?_set_self hj]; rfl
/-- A file is cut. -/
theorem RD.cut {w w4 : World} {B g cap j : Nat} {p : PD} {fs : List Fl} {l nm dat : List UInt8} {a : Option Addr} {c n : Nat} {f : Fl} {s : Int} (h : RD 0 w B p (.slice (some ⟨g, 0, none⟩) fs.length cap) fs l) (hgB : g ≠ B) (hr : p.fs.Pairwise (fun f g => f.nm ≠ g.nm)) (hj : j < fs.length) (hf : fs.getD j nilFl = f) (hnm : f.nm = nm) (hB4 : Below w.heap.size w w4) (hO : Ow 0 w4 (.slice a dat.length c) dat) (hd : dat = f.dat.take n) (hs : s = min f.syn (n : Int)) :
    RD 0 ((w4.setCell ⟨g, j * 3 + 1, none⟩ (.slice a dat.length c)).setCell ⟨g, j * 3 + 2, none⟩ (.int .i64 s)) B { p with fs := p.fs.map (cutP nm n) } (.slice (some ⟨g, 0, none⟩) fs.length cap) (fs.set j ⟨f.nm, a, c, dat, s⟩) l := by
  subst hf
  have h4 := h.out (X := fun _ => False) (Out.of_below hB4) (fun h => h) (fun _ _ h => h) (fun _ _ _ _ h => h)
  have hlen : dat.length ≤ (fs.getD j nilFl).dat.length := by rw [hd]; simp only [List.length_take]; omega
  have h5 := RD.put1 (nm := nm) (dat := dat) (a := a) (c := c) h4 hgB hr hj hnm hO (cutD nm n) (fun q hq => by unfold cutD; rw [if_neg (by simpa using hq)]) (fun q hq e => by
      have hq1 : q.nm = nm := by simp only [Fl.says, PF.says, Prod.mk.injEq] at e; rw [e.1, hnm]
      simp only [Fl.says, PF.says, Prod.mk.injEq] at e
      unfold cutD
      rw [if_pos (by simpa using hq1)]
      simp only [PF.says, Prod.mk.injEq]
      exact ⟨hq1, by rw [e.2.1, hd], e.2.2⟩) (fun q => by unfold cutD; split <;> exact ⟨rfl, rfl⟩) (by have h1 := sum_says h.sy; have h2 := h.sm; omega)
  have hj5 : j < (fs.set j ⟨(fs.getD j nilFl).nm, a, c, dat, (fs.getD j nilFl).syn⟩).length := by simpa using hj
  have hg5 := getD_set hj ⟨(fs.getD j nilFl).nm, a, c, dat, (fs.getD j nilFl).syn⟩
  have hl5 : (fs.set j ⟨(fs.getD j nilFl).nm, a, c, dat, (fs.getD j nilFl).syn⟩).length = fs.length := List.length_set
  rw [← hl5] at h5
  have h6 := RD.put2 (nm := nm) (s := s) h5 hgB (cutD_ne nm n hr) hj5 (by rw [hg5]; exact hnm) (cutS nm n) (fun q hq => by unfold cutS; rw [if_neg (by simpa using hq)]) (fun q hq e => by
      rw [hg5] at e ⊢
      have hq1 : q.nm = nm := by simp only [Fl.says, PF.says, Prod.mk.injEq] at e; rw [e.1, hnm]
      simp only [Fl.says, PF.says, Prod.mk.injEq] at e
      unfold cutS
      rw [if_pos (by simpa using hq1)]
      simp only [PF.says, Prod.mk.injEq]
      exact ⟨hq1, e.2.1, by rw [hs, ← e.2.2]; omega⟩) (fun q => by unfold cutS; split <;> exact ⟨rfl, rfl⟩)
  rw [hg5, hl5, List.set_set] at h6
  have e := cut_eq p.fs nm n
  simp only at h6
  rw [e] at h6
  exact h6
theorem cell_other {w : World} {g B o i : Nat} {u x : Value} (h : g ≠ B) (hc : w.cell? ⟨B, i, none⟩ = some x) : (w.setCell ⟨g, o, none⟩ u).cell? ⟨B, i, none⟩ = some x :=
  (World.cell?_of_block (a := ⟨B, i, none⟩) (Below.heap_setCell _ _ _ _ (fun e => h e.symm))).trans hc
theorem cell_beside {w : World} {g o i : Nat} {u x : Value} (h : i ≠ o) (hc : w.cell? ⟨g, i, none⟩ = some x) : (w.setCell ⟨g, o, none⟩ u).cell? ⟨g, i, none⟩ = some x := by
  rw [World.cell?_setCell_other]
  · exact hc
  · intro e
    cases e
    exact h rfl
theorem frozen_set (w : World) (g o i : Nat) (u : Value) : (w.setCell ⟨g, o, none⟩ u).frozen? ⟨g, i, none⟩ = w.frozen? ⟨g, i, none⟩ := by simp
theorem cut_done {S : Nat → Prop} {w w1 w3 : World} {B g cap j k : Nat} {p : PD} {fs : List Fl} {l nm dt : List UInt8} {a : Option Addr} {c : Nat} {f : Fl} {s : Int} (h : Rdo S w B p (.slice (some ⟨g, 0, none⟩) fs.length cap) fs l) (hG : Good p) (hR1 : RD 0 w1 B p.fail (.slice (some ⟨g, 0, none⟩) fs.length cap) fs l) (hO1 : Out (· = B) w w1) (hgB : g ≠ B) (hj : j < fs.length) (hf : fs.getD j nilFl = f) (hnm : f.nm = nm) (hB3 : Below w1.heap.size w1 w3) (hO : Ow w1.heap.size w3 (.slice a dt.length c) dt) (hd : dt = f.dat.take k) (hs : s = min f.syn (k : Int)) (hE : doCut p nm (k : Int) = (0, { p.fail with fs := p.fs.map (cutP nm k) })) :
    RDone S w B (doCut p nm (k : Int)) (.returned (.int .i64 0)) ((w3.setCell ⟨g, j * 3 + 1, none⟩ (.slice a dt.length c)).setCell ⟨g, j * 3 + 2, none⟩ (.int .i64 s)).drew := by
  have HP := pd_fail_fs p
  have hne : p.fail.fs.Pairwise (fun f g => f.nm ≠ g.nm) := by rw [HP]; exact rise_ne hG.rise
  have hR5 := RD.cut (n := k) hR1 hgB hne hj hf hnm hB3 (hO.base (Nat.zero_le _)) hd hs
  rw [HP] at hR5
  have hR6 := hR5.drew
  have hSg : S g := h.Sv g rfl
  have hO5 : Out S w ((w3.setCell ⟨g, j * 3 + 1, none⟩ (.slice a dt.length c)).setCell ⟨g, j * 3 + 2, none⟩ (.int .i64 s)) := ((((hO1.fit (X := S) h.SB).trans (Out.of_below (X := S) hB3) (fun i hi _ => hi)).trans (Out.set (X := S) hSg) (fun i hi _ => hi)).trans (Out.set (X := S) hSg) (fun i hi _ => hi))
  have hO6 : Out S w ((w3.setCell ⟨g, j * 3 + 1, none⟩ (.slice a dt.length c)).setCell ⟨g, j * 3 + 2, none⟩ (.int .i64 s)).drew := ⟨hO5.os, hO5.tape, hO5.output, hO5.size, hO5.block⟩
  refine RDone.mk hE rfl hO6 (h.row hO6 hR6 (fun x hx => ?_) (map_nm (fun q => by unfold cutP; split <;> rfl) _))
  rcases mem_set_fl hx with rfl | hx
  · exact .inr (fun g' hg' => .inr (Nat.le_trans hO1.size (World.ownsRow.lt hO g' hg').1))
  · exact .inl hx

set_option maxRecDepth 100000 in
set_option maxHeartbeats 8000000 in
theorem refCut {S : Nat → Prop} {w : World} {B : Nat} {p : PD} (h : RDs S w B p) (hg : Good p) (nm : List UInt8) (n : Int) (hn : n ≤ 9223372036854775807) :
    Calls Try.prog 37 #[.pointer (some ⟨B, 0, none⟩), .string ⟨nm.toArray⟩, .int .i64 n] w fun r w' => RDone S w B (doCut p nm n) r w' := by
  obtain ⟨v, fs, l, h⟩ := h
  obtain ⟨k0, k1, k2, k3, f0, f1, f2, f3⟩ := h.rd.cells
  have HH : Hid (Rdo S w B p v fs l) := h
  have HS := says_nm h.rd.sy nm
  obtain ⟨va, vc, hv⟩ := row_shape h.rd.fi.row
  have hat := refAt_any h.rd nm
  have hsm := h.rd.sm
  cases hd : p.dn with
  | true =>
    have HE : Hid (doCut p nm n = (11, p)) := by show doCut p nm n = _; simp [doCut, hd]
    rw [hd] at k2
    clear h HS hd
    subst hv
    go_enter Try.func37, Try.ntmps37
    go_wp2
    go_ret
    exact RDone.mk HE.out rfl (Out.refl _ _) HH.out.grew
  | false =>
  rw [hd] at k2
  by_cases h2 : (lookP nm p.fs).isSome = true
  case neg =>
    have hnone : lookP nm p.fs = none := by simpa using h2
    have HE : Hid (doCut p nm n = (8, p)) := by show doCut p nm n = _; simp [doCut, hd, hnone]
    have HX : Hid (∀ f ∈ fs, f.nm ≠ nm) := fun f hf e => h2 (HS.1 ⟨f, hf, e⟩)
    clear h h2 HS hd hnone
    subst hv
    go_enter Try.func37, Try.ntmps37
    go_wp2_with (first
      | (go_at_call 53; refine hat.mono ?_; rintro r w' ⟨i, rfl, hi, hw⟩; subst w'; have hi0 : i < (0 : Int) := at_neg hi HX.out; clear hi)
      | fail)
    go_ret
    exact RDone.mk HE.out rfl (Out.refl _ _) HH.out.grew
  have HX : Hid (∃ f ∈ fs, f.nm = nm) := HS.2 h2
  obtain ⟨q, hq⟩ := Option.isSome_iff_exists.1 h2
  have HLK : Hid (∀ j, j < fs.length → (fs.getD j nilFl).nm = nm → q.says = (fs.getD j nilFl).says) := fun j hj hjn => by
    obtain ⟨q', h1, h3, h4⟩ := look_at h.rd.sy hj (rise_ne hg.rise)
    rw [hjn, hq] at h1
    cases h1
    exact h4
  have HE : Hid (doCut p nm n = if n < 0 ∨ (q.dat.length : Int) < n then (1, p) else if p.fell then (11, p.fail) else (0, { p.fail with fs := p.fs.map (cutP nm n.toNat) })) := by
    show doCut p nm n = _
    simp only [doCut, hd, hq]
    rw [if_neg (by simp)]
  have HG : Hid (Good p) := hg
  have hfl := refFails_any h.rd hg.arm
  have HP : Hid (p.fail.fs = p.fs) := pd_fail_fs p
  have HFW : Hid (∀ j, j < fs.length → (fs.getD j nilFl).dat.length ≤ 16777216) := fun j hj => by have h1 := sumF_mem hj; have h2 := sum_says h.rd.sy; have := h.rd.sm; show _ ≤ _; omega
  have HAT : Hid (∀ {j : Nat}, j < fs.length → ∃ g cap, v = .slice (some ⟨g, 0, none⟩) fs.length cap ∧ fs.length ≤ cap ∧ cap ≤ maxLen ∧ g ≠ B ∧ FlAt w.heap.size w g (j * 3) (fs.getD j nilFl) ∧ (∀ i, w.frozen? ⟨g, i, none⟩ = false) ∧ (∃ cs, w.heap[g]? = some (.cells cs 37 (0, 0)))) := fun hj => h.rd.at hj
  clear h2 HS hd
  by_cases hneg : n < 0
  · have hneg' : decide (n < 0) = true := by simpa using hneg
    clear h
    subst hv
    go_enter Try.func37, Try.ntmps37
    go_wp2_with (first
      | (go_at_call 53; refine hat.mono ?_; rintro r w' ⟨i, rfl, hi, hw⟩; subst w'; obtain ⟨j, rfl, hj, hjn⟩ := at_pos hi HX.out; have hi0 : (0 : Int) ≤ (j : Int) := (by omega); have hi1 : (j : Int) < (fs.length : Int) := (by omega); clear hi)
      | fail)
    go_ret
    exact RDone.mk (by rw [HE.out, if_pos (.inl hneg)]) rfl (Out.refl _ _) HH.out.grew
  have hneg' : decide (n < 0) = false := by simpa using hneg
  by_cases hbig : (q.dat.length : Int) < n
  · have HBG : Hid ((q.dat.length : Int) < n) := hbig
    clear h hbig
    subst hv
    go_enter Try.func37, Try.ntmps37
    go_wp2_with (first
      | (go_at_call 53; refine hat.mono ?_; rintro r w' ⟨i, rfl, hi, hw⟩; subst w'; obtain ⟨j, rfl, hj, hjn⟩ := at_pos hi HX.out; have hi0 : (0 : Int) ≤ (j : Int) := (by omega); have hi1 : (j : Int) < (fs.length : Int) := (by omega); obtain ⟨g, gc, hv2, hg1, hg2, hgB, hat2, hfz, -⟩ := HAT.out hj; cases hv2; obtain ⟨c0, c1, c2, -⟩ := hat2; unfold Fl.x at c1; have hlk := HLK.out j hj hjn; have hlen : (((fs.getD j nilFl).dat.length : Nat) : Int) < n := (by have := HBG.out; simp only [Fl.says, PF.says, Prod.mk.injEq] at hlk; rw [hlk.2.1] at this; exact this); generalize fs.getD j nilFl = f at *; clear hi hlk)
      | fail)
    go_ret
    exact RDone.mk (by rw [HE.out, if_pos (.inr HBG.out)]) rfl (Out.refl _ _) HH.out.grew
  obtain ⟨k, rfl⟩ : ∃ k : Nat, n = (k : Int) := ⟨n.toNat, by omega⟩
  have HBG : Hid (k ≤ q.dat.length) := by show _ ≤ _; omega
  have HE2 : Hid (doCut p nm (k : Int) = if p.fell then (11, p.fail) else (0, { p.fail with fs := p.fs.map (cutP nm k) })) := by
    show _ = _
    rw [HE.out, if_neg (by omega)]
    rfl
  clear hneg hbig hneg' HE
  have HE := HE2
  clear HE2
  cases hfe : p.fell with
  | true =>
    rw [hfe] at hfl
    have HFE : Hid (p.fell = true) := hfe
    clear h hfe
    subst hv
    go_enter Try.func37, Try.ntmps37
    go_wp2_with (first
      | (go_at_call 53; refine hat.mono ?_; rintro r w' ⟨i, rfl, hi, hw⟩; subst w'; obtain ⟨j, rfl, hj, hjn⟩ := at_pos hi HX.out; have hi0 : (0 : Int) ≤ (j : Int) := (by omega); have hi1 : (j : Int) < (fs.length : Int) := (by omega); obtain ⟨g, gc, hv2, hg1, hg2, hgB, hat2, hfz, -⟩ := HAT.out hj; cases hv2; obtain ⟨c0, c1, c2, -⟩ := hat2; unfold Fl.x at c1; have hlk := HLK.out j hj hjn; have hlen : ((k : Nat) : Int) ≤ ((fs.getD j nilFl).dat.length : Int) := (by have := HBG.out; simp only [Fl.says, PF.says, Prod.mk.injEq] at hlk; rw [hlk.2.1] at this; omega); generalize fs.getD j nilFl = f at *; clear hi hlk)
      | (go_at_call 57; refine hfl.mono ?_; rintro r w1 ⟨rfl, hR1, hO1⟩)
      | fail)
    go_ret
    exact RDone.mk (by rw [HE.out, HFE.out]; rfl) rfl (hO1.fit (X := S) HH.out.SB) (HH.out.step (hO1.fit (X := S) HH.out.SB) hR1 (fun g hg => .inl (HH.out.Sv g hg)) (fun f hf => .inl hf) (by rw [HP.out]; exact HH.out.lt0))
  | false =>
    rw [hfe] at hfl
    have HFE : Hid (p.fell = false) := hfe
    clear h hfe
    subst hv
    go_enter Try.func37, Try.ntmps37
    go_wp2_with (first
      | (go_at_call 53; refine hat.mono ?_; rintro r w' ⟨i, rfl, hi, hw⟩; subst w'; obtain ⟨j, rfl, hj, hjn⟩ := at_pos hi HX.out; have hi0 : (0 : Int) ≤ (j : Int) := (by omega); have hi1 : (j : Int) < (fs.length : Int) := (by omega); obtain ⟨g, gc, hv2, hg1, hg2, hgB, hat2, hfz, -⟩ := HAT.out hj; cases hv2; obtain ⟨c0, c1, c2, -⟩ := hat2; unfold Fl.x at c1; have hlk := HLK.out j hj hjn; have hlen : ((k : Nat) : Int) ≤ ((fs.getD j nilFl).dat.length : Int) := (by have := HBG.out; simp only [Fl.says, PF.says, Prod.mk.injEq] at hlk; rw [hlk.2.1] at this; omega); have HJN : Hid ((fs.getD j nilFl).nm = nm) := hjn; have hfd := HFW.out j hj; obtain ⟨f, hf⟩ : ∃ f, fs.getD j nilFl = f := ⟨_, rfl⟩; have HF : Hid (fs.getD j nilFl = f) := hf; rw [hf] at c0 c1 c2 hlen hfd; clear hi hlk hjn hf hfz hat)
      | (go_at_call 57; refine hfl.mono ?_; rintro r w1 ⟨rfl, hR1, hO1⟩)
      | fail)
    clear c0 c1 c2 k0 k1 k2 k3 f0 f1 f2 f3 hfl hgB
    have hBlt := hR1.lt
    obtain ⟨g', gc', hv2, -, -, hgB, hat2, hfz, ⟨cs, hcs⟩⟩ := hR1.at hj
    cases hv2
    have hglt : g < w1.heap.size := (Array.getElem?_eq_some_iff.1 hcs).1
    rw [HF.out] at hat2
    obtain ⟨c0, c1, c2, csl⟩ := hat2
    unfold Fl.x at c1 csl
    obtain ⟨m0, -⟩ := hR1.cells
    have hcap : f.dat.length ≤ f.c ∧ f.c ≤ maxLen := by obtain ⟨a1, cap1, e, q1, q2, _⟩ := csl; cases e; exact ⟨q1, q2⟩
    have hkc : (k : Int) ≤ (f.c : Int) := by omega
    have hk0 : (0 : Int) ≤ (k : Int) := by omega
    have hby := bytes_any w1.heap.size (.slice f.a k f.c) (f.dat.take k) w1.drew ((csl.front k (by omega)).below ⟨rfl, rfl, rfl, Nat.le_refl _, fun _ _ => rfl⟩) (Nat.le_refl _) (by simp only [List.length_take]; omega)
    obtain ⟨dt, hdt⟩ : ∃ dt, f.dat.take k = dt := ⟨_, rfl⟩
    have HDT : Hid (f.dat.take k = dt) := hdt
    rw [hdt] at hby
    clear hdt hcs
    go_region_law (first
        | (go_simp; go_at_call 49; refine hby.mono ?_; rintro e w3 ⟨v3, rfl, hO3, hB3⟩; obtain ⟨ba, bc, rfl, -, -⟩ := hO3.shape; have hO3x : Ow w1.heap.size w3 (.slice ba dt.length bc) dt := hO3; have hB3x : Below w1.heap.size w1 w3 := ⟨hB3.os, hB3.tape, hB3.output, hB3.size, hB3.block⟩; have n0 := (hB3x.cell (p := ⟨B, 0, none⟩) hBlt).trans m0; have n1 := (hB3x.cell (p := ⟨g, j * 3 + 1, none⟩) hglt).trans c1; have n2 := (hB3x.cell (p := ⟨g, j * 3 + 2, none⟩) hglt).trans c2; have n3 := (hB3x.frozen (p := ⟨g, j * 3 + 1, none⟩) hglt).trans (hfz _); have n4 := (hB3x.frozen (p := ⟨g, j * 3 + 2, none⟩) hglt).trans (hfz _))
        | fail)
    all_goals (
      have p0 : (w3.setCell ⟨g, j * 3 + 1, none⟩ (.slice ba dt.length bc)).cell? ⟨B, 0, none⟩ = some (.slice (some ⟨g, 0, none⟩) fs.length vc) := cell_other hgB n0
      have p2 : (w3.setCell ⟨g, j * 3 + 1, none⟩ (.slice ba dt.length bc)).cell? ⟨g, j * 3 + 2, none⟩ = some (.int .i64 f.syn) := cell_beside (by omega) n2
      have p4 : (w3.setCell ⟨g, j * 3 + 1, none⟩ (.slice ba dt.length bc)).frozen? ⟨g, j * 3 + 2, none⟩ = false := (frozen_set _ _ _ _ _).trans n4
      clear n0 n1 n2 n3 n4 c0 c1 c2 m0 hfz
      go_wp2
      go_region)
    all_goals (
      go_wp2
      go_ret
      refine cut_done (nm := nm) HH.out HG.out hR1 hO1 hgB hj HF.out (by have h9 := HJN.out; rw [HF.out] at h9; exact h9) hB3x hO3x HDT.out.symm ?_ (by rw [HE.out, HFE.out]; rfl)
      rfl)
end Go.Proofs.Ytbjnhohfdpdcnaa
