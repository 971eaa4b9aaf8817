/-
  The document's disk: Crash.
-/
import Derived.Test.YtbjnhohfdpdcnaaRe2
import Derived.Test.YtbjnhohfdpdcnaaRe4
namespace Go.Proofs.Ytbjnhohfdpdcnaa
open Go.RowKit Go.Shelf
set_option linter.unusedVariables false

/-- A file's bytes and how many are durable are others. -/
theorem RD.both {w : World} {B g cap j : Nat} {p : PD} {fs : List Fl} {l nm dat : List UInt8} {a : Option Addr} {c : Nat} {s : Int} (h : RD 0 w B p (.slice (some ⟨g, 0, none⟩) fs.length cap) fs l) (hgB : g ≠ B) (hr : p.fs.Pairwise (fun f g => f.nm ≠ g.nm)) (hj : j < fs.length) (hnm : (fs.getD j nilFl).nm = nm) (hO : Ow 0 w (.slice a dat.length c) dat) (hlen : dat.length ≤ (fs.getD j nilFl).dat.length)
    (G : PF → PF) (hG : ∀ q, q.nm ≠ nm → (G q).says = q.says) (hG2 : ∀ q ∈ p.fs, q.says = (fs.getD j nilFl).says → (G q).says = (nm, dat, s)) (hGl : ∀ q, (G q).nm = q.nm ∧ (G q).late = q.late) :
    RD 0 ((w.setCell ⟨g, j * 3 + 1, none⟩ (.slice a dat.length c)).setCell ⟨g, j * 3 + 2, none⟩ (.int .i64 s)) B { p with fs := p.fs.map G } (.slice (some ⟨g, 0, none⟩) fs.length cap) (fs.set j ⟨(fs.getD j nilFl).nm, a, c, dat, s⟩) l := by
  have h1 := FilesIn.set1 h.fi hj hO
  have hl5 : (fs.set j ⟨(fs.getD j nilFl).nm, a, c, dat, (fs.getD j nilFl).syn⟩).length = fs.length := List.length_set
  have hg5 := getD_set hj ⟨(fs.getD j nilFl).nm, a, c, dat, (fs.getD j nilFl).syn⟩
  rw [← hl5] at h1
  have h2 := FilesIn.set2 h1 (j := j) (by rw [hl5]; exact hj) s
  rw [hg5, hl5, List.set_set] at h2
  have hsy := says_set (f' := ⟨(fs.getD j nilFl).nm, a, c, dat, s⟩) G h.sy hr hj hnm hG (fun q hq e => by rw [hG2 q hq e]; show ((fs.getD j nilFl).nm, dat, s) = _; rw [hnm])
  refine ⟨Nat.zero_le _, ?_, h2, hsy, by rw [List.length_set]; exact h.fw, ?_, ?_⟩
  · refine Eq.trans ((Out.set (X := (· = g)) rfl).block B ?_ (fun e => hgB e.symm)) (((Out.set (X := (· = g)) rfl).block B h.lt (fun e => hgB e.symm)).trans h.hd)
    rw [size_set]; exact h.lt
  · have h3 := sum_says hsy
    have h4 := sumF_set (f' := ⟨(fs.getD j nilFl).nm, a, c, dat, s⟩) hj
    have h5 := sum_says h.sy
    have h6 := h.sm
    show sumP (p.fs.map G) ≤ _
    simp only at h4
    omega
  · intro f hf
    obtain ⟨q, hq, rfl⟩ := List.mem_map.1 hf
    rw [(hGl q).1, (hGl q).2]
    exact h.la q hq
def crK (keep : Int) (f : PF) : PF := { crashP keep f with late := f.late }
def crG (keep : Int) (nm : List UInt8) (q : PF) : PF := if q.nm == nm then crK keep q else q
def crI (keep : Int) (k : Nat) (ps : List PF) : List PF := (ps.take k).map (crK keep) ++ ps.drop k
theorem crK_nm (keep : Int) (q : PF) : (crK keep q).nm = q.nm := rfl
theorem crI_nm (keep : Int) (k : Nat) (ps : List PF) : (crI keep k ps).map PF.nm = ps.map PF.nm := by
  unfold crI
  rw [List.map_append, List.map_map]
  have e : (ps.take k).map (PF.nm ∘ crK keep) = (ps.take k).map PF.nm := List.map_congr_left fun q _ => crK_nm keep q
  rw [e, ← List.map_append, List.take_append_drop]
theorem ne_of_map {ps qs : List PF} (h : ps.map PF.nm = qs.map PF.nm) (hq : qs.Pairwise (fun f g => f.nm ≠ g.nm)) : ps.Pairwise (fun f g => f.nm ≠ g.nm) := by
  have h1 : (qs.map PF.nm).Pairwise (fun a b => a ≠ b) := List.pairwise_map.2 hq
  rw [← h] at h1
  exact List.pairwise_map.1 h1
theorem crI_step {keep : Int} {k : Nat} {ps : List PF} (hp : ps.Pairwise (fun f g => f.nm ≠ g.nm)) (hk : k < ps.length) {nm : List UInt8} (hn : ps[k].nm = nm) : (crI keep k ps).map (crG keep nm) = crI keep (k + 1) ps := by
  have e : ps.drop k = ps[k] :: ps.drop (k + 1) := List.drop_eq_getElem_cons hk
  have e2 : ps.take (k + 1) = ps.take k ++ [ps[k]] := List.take_succ_eq_append_getElem hk
  have hsplit : (ps.take k ++ ps[k] :: ps.drop (k + 1)).Pairwise (fun f g => f.nm ≠ g.nm) := by rw [← e, List.take_append_drop]; exact hp
  obtain ⟨h1, h2, h3⟩ := List.pairwise_append.1 hsplit
  obtain ⟨h4, h5⟩ := List.pairwise_cons.1 h2
  unfold crI
  rw [e, e2, List.map_append, List.map_append, List.map_cons]
  have a1 : ((ps.take k).map (crK keep)).map (crG keep nm) = (ps.take k).map (crK keep) := by
    rw [List.map_map]
    refine List.map_congr_left fun q hq => ?_
    show crG keep nm (crK keep q) = crK keep q
    unfold crG
    rw [if_neg]
    rw [crK_nm]
    have := h3 q hq ps[k] List.mem_cons_self
    rw [hn] at this
    simpa using this
  have a2 : (ps.drop (k + 1)).map (crG keep nm) = ps.drop (k + 1) := by
    have : (ps.drop (k + 1)).map (crG keep nm) = (ps.drop (k + 1)).map id := List.map_congr_left fun q hq => by
      unfold crG
      rw [if_neg]
      · rfl
      · have := h4 q hq
        rw [hn] at this
        simpa using fun e : q.nm = nm => this e.symm
    rw [this, List.map_id]
  have a3 : crG keep nm ps[k] = crK keep ps[k] := by unfold crG; rw [if_pos (by simpa using hn)]
  rw [a1, a2, a3]
  simp
/-- Nothing but the row of files and new blocks. -/
structure CrI (keep : Int) (w wr : World) (B g cap : Nat) (p : PD) (fs fl : List Fl) (l : List UInt8) (k : Nat) : Prop where
  rd : RD 0 wr B { p with fs := crI keep k p.fs } (.slice (some ⟨g, 0, none⟩) fs.length cap) fl l
  out : Out (· = g) w wr
  new : ∀ f ∈ fl, f ∈ fs ∨ ∀ b, f.x.ownBlock = some b → w.heap.size ≤ b
  len : fl.length = fs.length
def crN (late : Bool) (keep : Int) (sy len : Nat) : Nat := if late then sy + min keep.toNat (len - sy) else sy
theorem CrI.step {keep : Int} {w wr w3 : World} {B g cap k : Nat} {p : PD} {fs fl : List Fl} {l dt : List UInt8} {f : Fl} {a : Option Addr} {c t : Nat} (h : CrI keep w wr B g cap p fs fl l k) (hG : Good p) (hgB : g ≠ B) (hk : k < fs.length) (hf : fl.getD k nilFl = f) (hB3 : Below wr.heap.size wr w3) (hO : Ow wr.heap.size w3 (.slice a dt.length c) dt) (hd : dt = f.dat.take t) {sy : Nat} (hsy : f.syn = (sy : Int)) (ht : t = crN (f.nm == l) keep sy f.dat.length) :
    CrI keep w ((w3.setCell ⟨g, k * 3 + 1, none⟩ (.slice a dt.length c)).setCell ⟨g, k * 3 + 2, none⟩ (.int .i64 (t : Int))) B g cap p fs (fl.set k ⟨f.nm, a, c, dt, (t : Int)⟩) l (k + 1) := by
  subst hf
  have hk2 : k < fl.length := by rw [h.len]; exact hk
  have hne := rise_ne hG.rise
  have hr3 := h.rd.out (X := fun _ => False) (Out.of_below hB3) (fun h => h) (fun _ _ h => h) (fun _ _ _ _ h => h)
  rw [← h.len] at hr3
  have hkp : k < p.fs.length := by
    have := h.rd.len
    have e := congrArg List.length (crI_nm keep k p.fs)
    simp only [List.length_map] at e
    simp only at this
    omega
  have hnk : p.fs[k].nm = (fl.getD k nilFl).nm := by
    have e1 := says_nms h.rd.sy
    simp only at e1
    rw [crI_nm] at e1
    have e2 : (fl.map Fl.nm)[k]? = (p.fs.map PF.nm)[k]? := by rw [e1]
    rw [List.getElem?_map, List.getElem?_map, List.getElem?_eq_getElem hkp, List.getElem?_eq_getElem hk2] at e2
    simp only [Option.map_some, Option.some.injEq] at e2
    rw [← e2, List.getD_eq_getElem?_getD, List.getElem?_eq_getElem hk2]
    rfl
  have hR := RD.both (nm := (fl.getD k nilFl).nm) (dat := dt) (a := a) (c := c) (s := (t : Int)) hr3 hgB (ne_of_map (crI_nm keep k p.fs) hne) hk2 rfl (hO.base (Nat.zero_le _)) (by rw [hd]; simp only [List.length_take]; omega) (crG keep (fl.getD k nilFl).nm) (fun q hq => by unfold crG; rw [if_neg (by simpa using hq)]) (fun q hq e => by
      have hq1 : q.nm = (fl.getD k nilFl).nm := by simp only [Fl.says, PF.says, Prod.mk.injEq] at e; exact e.1
      have hql := h.rd.la q hq
      simp only [Fl.says, PF.says, Prod.mk.injEq] at e
      have hqs : q.syn = sy := by have := e.2.2; rw [hsy] at this; omega
      unfold crG
      rw [if_pos (by simpa using hq1)]
      have ht2 : (crashP keep q).syn = t := by
        rw [ht]
        unfold crashP crN
        rw [hql, hq1, hqs, e.2.1]
      have hd2 : (crashP keep q).dat = q.dat.take (crashP keep q).syn := rfl
      show ((crashP keep q).nm, (crashP keep q).dat, ((crashP keep q).syn : Int)) = _
      rw [hd2, ht2, e.2.1, hd]
      rw [← hq1]; rfl) (fun q => by unfold crG; split <;> exact ⟨rfl, rfl⟩)
  simp only at hR
  rw [crI_step hne hkp hnk, h.len] at hR
  refine ⟨hR, ?_, fun x hx => ?_, by rw [List.length_set]; exact h.len⟩
  · exact ((h.out.trans (Out.of_below (X := (· = g)) hB3) (fun i hi _ => hi)).trans (Out.set (X := (· = g)) rfl) (fun i hi _ => hi)).trans (Out.set (X := (· = g)) rfl) (fun i hi _ => hi)
  · rcases mem_set_fl hx with rfl | hx
    · exact .inr (fun b hb => Nat.le_trans h.out.size (World.ownsRow.lt hO b hb).1)
    · exact h.new x hx

theorem crN_le (late : Bool) (keep : Int) {sy len : Nat} (h : sy ≤ len) : crN late keep sy len ≤ len := by
  unfold crN
  split <;> omega
/-- Behind the loop, the disk's own cells are cleared. -/
theorem crash_done {S : Nat → Prop} {w wr wf : World} {B : Nat} {p : PD} {v : Value} {fs fl : List Fl} {l : List UInt8} {keep : Int} (h : Rdo S w B p v fs l) (hG : Good p) (hR : RD 0 wr B { p with fs := p.fs.map (crK keep) } v fl l) (hO : Out S w wr) (hnew : ∀ f ∈ fl, f ∈ fs ∨ ∀ b, f.x.ownBlock = some b → w.heap.size ≤ b) (hf : Out (· = B) wr wf) (hd : wf.heap[B]? = some (.cells #[v, .int .i64 0, .bool false, .string ⟨#[]⟩] 30 (0, 0))) : Out S w wf ∧ RDs (grew S w wf) wf B (doCrash p keep) := by
  have hs : (p.fs.map (crK keep)).map PF.says = (p.fs.map (crashP keep)).map PF.says := by
    rw [List.map_map, List.map_map]
    exact List.map_congr_left fun q _ => rfl
  have hR1 : RD 0 wf B (doCrash p keep) v fl [] := by
    refine ⟨Nat.zero_le _, hd, ⟨row_out hR.fi.row hf (fun g hg e => ?_), fun f hf' => (hR.fi.own f hf').out hf (fun g hg e => (hR.fi.own f hf').not_at hR.hd (by decide) (by rw [hg, e]))⟩, hR.sy.trans hs, hR.fw, ?_, ?_⟩
    · rcases hR.fi.row.2 with ⟨hv0, _⟩ | ⟨g', cap, cur, hv0, _, hgb, _⟩
      · rw [hv0] at hg; simp [Value.ownBlock] at hg
      · rw [hv0] at hg
        simp [Value.ownBlock] at hg
        subst hg e
        rw [hR.hd] at hgb
        cases hgb
    · have h1 := sum_says hR.sy
      have h2 := sum_says (hR.sy.trans hs)
      have h3 := hR.sm
      show sumP (p.fs.map (crashP keep)) ≤ _
      simp only at h1 h3
      omega
    · intro f hf'
      obtain ⟨q, hq, rfl⟩ := List.mem_map.1 hf'
      have h4 := isNm_ne (hG.nms q hq)
      show false = (q.nm == [])
      rw [show (q.nm == []) = false from by simpa using h4]
  have hO2 : Out S w wf := hO.trans (hf.fit (X := S) h.SB) (fun i hi _ => hi)
  exact ⟨hO2, v, fl, [], h.step hO2 hR1 (fun g hg => .inl (h.Sv g hg)) (fun f hf' => (hnew f hf').imp id (fun h9 b hb => .inr (h9 b hb))) (.inl rfl)⟩

set_option maxRecDepth 100000 in
set_option maxHeartbeats 8000000 in
theorem refCrash {S : Nat → Prop} {w : World} {B : Nat} {p : PD} (h : RDs S w B p) (hg : Good p) (keep : Int) (hk : keep ≤ 9223372036854775807) :
    Calls Try.prog 43 #[.pointer (some ⟨B, 0, none⟩), .int .i64 keep] w fun r w' => r = .returned (.tuple #[]) ∧ Out S w w' ∧ RDs (grew S w w') w' B (doCrash p keep) := by
  obtain ⟨v, fs, l, h⟩ := h
  have HH : Hid (Rdo S w B p v fs l) := h
  have HG : Hid (Good p) := hg
  by_cases hz : fs = []
  · subst hz
    obtain ⟨va, vc, hv⟩ := row_shape h.rd.fi.row
    obtain ⟨k0, k1, k2, k3, f0, f1, f2, f3⟩ := h.rd.cells
    have hd0 := h.rd.hd
    have hp0 : p.fs = [] := List.length_eq_zero_iff.1 (by have := h.rd.len; simpa using this.symm)
    have HD : Hid (w.heap[B]? = some (.cells #[v, .int .i64 (p.arm : Int), .bool p.dn, .string ⟨l.toArray⟩] 30 (0, 0))) := hd0
    have HP0 : Hid (p.fs = []) := hp0
    subst hv
    clear h hd0 hp0
    go_enter Try.func43, Try.ntmps43
    go_wp2_with fail
    go_loopw [4] (fun iv wr => iv = .int .i64 0 ∧ wr = w) (fun _ _ => 0)
    case atStart => exact ⟨rfl, rfl⟩
    case round =>
      obtain ⟨rfl, rfl⟩ := hrel
      go_wp2
      go_end0
      refine ⟨rfl, crash_done HH.out HG.out (keep := keep) (wr := wr) (fl := []) (by have := HH.out.rd; rw [HP0.out]; refine ⟨this.le, this.hd, this.fi, rfl, this.fw, by simp [sumP], by simp⟩) (Out.refl _ _) (fun f hf => by simp at hf) (((Out.set (X := (· = B)) rfl).trans (Out.set (X := (· = B)) rfl) (fun i hi _ => hi)).trans (Out.set (X := (· = B)) rfl) (fun i hi _ => hi)) (by simpa using heap_set (heap_set (heap_set HD.out 1 (.int .i64 0)) 2 (.bool false)) 3 (.string ⟨#[]⟩))⟩
  have hpos : 0 < fs.length := by cases fs with | nil => exact absurd rfl hz | cons _ _ => simp
  obtain ⟨g, cap, hv, hc1, hc2, hgB, -, -, -⟩ := h.rd.at hpos
  subst hv
  have HSG : Hid (S g) := h.Sv g rfl
  have hfw := h.rd.fw
  have HST : Hid (CrI keep w w B g cap p fs fs l 0) := ⟨by simpa [crI] using h.rd, Out.refl _ _, fun f hf => .inl hf, rfl⟩
  have hkm0 : (0 : Int) ≤ (max keep 0) := by omega
  clear h hz hpos
  go_enter Try.func43, Try.ntmps43
  go_wp2_with fail
  go_loopw [4] (fun iv wr => ∃ (k : Nat) (fl : List Fl), iv = .int .i64 (k : Int) ∧ k ≤ fs.length ∧ CrI keep w wr B g cap p fs fl l k) (fun iv _ => fs.length - (intOf iv).toNat)
  case atStart => exact ⟨0, fs, rfl, Nat.zero_le _, HST.out⟩
  case round =>
    obtain ⟨k, fl, rfl, hkn, hI⟩ := hrel
    have HI : Hid (CrI keep w wr B g cap p fs fl l k) := hI
    have hBlt := hI.rd.lt
    by_cases hlt : k < fs.length
    · have hk2 : k < fl.length := by rw [hI.len]; exact hlt
      have hi0 : (0 : Int) ≤ (k : Int) := by omega
      have hi1 : (k : Int) < (fs.length : Int) := by omega
      obtain ⟨f, hf⟩ : ∃ f, fl.getD k nilFl = f := ⟨_, rfl⟩
      have HF : Hid (fl.getD k nilFl = f) := hf
      have hrd := hI.rd
      rw [← hI.len] at hrd
      obtain ⟨g', gc', hv2, -, -, -, hat2, hfz, ⟨cs, hcs⟩⟩ := hrd.at hk2
      cases hv2
      have hglt : g < wr.heap.size := (Array.getElem?_eq_some_iff.1 hcs).1
      rw [hf] at hat2
      obtain ⟨c0, c1, c2, csl⟩ := hat2
      unfold Fl.x at c1 csl
      obtain ⟨m0, -, -, m3, -⟩ := hI.rd.cells
      obtain ⟨sy, hsy, hsl⟩ : ∃ sy : Nat, f.syn = (sy : Int) ∧ sy ≤ f.dat.length := by
        have hm : (fl.getD k nilFl).says ∈ (crI keep k p.fs).map PF.says := by rw [← hI.rd.sy]; exact List.mem_map_of_mem (getD_mem hk2)
        obtain ⟨q, hq, e⟩ := List.mem_map.1 hm
        rw [hf] at e
        simp only [Fl.says, PF.says, Prod.mk.injEq] at e
        refine ⟨q.syn, e.2.2.symm, ?_⟩
        rw [← e.2.1]
        rcases List.mem_append.1 hq with hq | hq
        · obtain ⟨x, hx, rfl⟩ := List.mem_map.1 hq
          have h8 := HG.out.syn x (List.mem_of_mem_take hx)
          show (crashP keep x).syn ≤ (crashP keep x).dat.length
          unfold crashP
          simp only [List.length_take]
          split <;> omega
        · exact HG.out.syn q (List.mem_of_mem_drop hq)
      have HSY : Hid (f.syn = (sy : Int)) := hsy
      rw [hsy] at c2
      have hfd : f.dat.length ≤ 16777216 := by have h1 := sumF_mem hk2; have h2 := sum_says hI.rd.sy; have h3 := hI.rd.sm; rw [hf] at h1; simp only at h2 h3; omega
      have hcap : f.dat.length ≤ f.c ∧ f.c ≤ maxLen := by obtain ⟨a1, cap1, e, q1, q2, _⟩ := csl; cases e; exact ⟨q1, q2⟩
      have hfc1 := hcap.1
      clear hcs hf hrd hsy hI hcap
      have HTAIL : Hid (∀ t : Nat, t ≤ f.dat.length → Calls Try.prog 49 #[.slice f.a t f.c] wr.drew.drew fun e w' => ∃ v', e = .returned v' ∧ Ow wr.heap.size w' v' (f.dat.take t) ∧ Below wr.heap.size wr w') := fun t ht => by
        refine (bytes_any wr.heap.size (.slice f.a t f.c) (f.dat.take t) wr.drew.drew ((csl.front t ht).below ⟨rfl, rfl, rfl, Nat.le_refl _, fun _ _ => rfl⟩) (Nat.le_refl _) (by simp only [List.length_take]; omega)).mono ?_
        rintro e w' ⟨v', rfl, h1, h2⟩
        exact ⟨v', rfl, h1, h2.os, h2.tape, h2.output, h2.size, h2.block⟩
      by_cases hln : f.nm = l
      · have hln' : (f.nm == l) = true := by simpa using hln
        obtain ⟨t, hte⟩ : ∃ t : Nat, crN true keep sy f.dat.length = t := ⟨_, rfl⟩
        have HT : Hid (t = crN (f.nm == l) keep sy f.dat.length) := by show t = _; rw [hln']; exact hte.symm
        have htl : t ≤ f.dat.length := by rw [← hte]; exact crN_le _ _ hsl
        have hw1 : IntKind.i64.wrap ((f.dat.length : Int) - (sy : Int)) = (f.dat.length : Int) - (sy : Int) := by rw [IntKind.wrap_i64]; omega
        have hw2 : IntKind.i64.wrap ((sy : Int) + min (max keep 0) ((f.dat.length : Int) - (sy : Int))) = (t : Int) := by rw [IntKind.wrap_i64, ← hte]; unfold crN; simp only [if_true]; omega
        have ht0 : (0 : Int) ≤ (t : Int) := by omega
        have htc : (t : Int) ≤ (f.c : Int) := by omega
        have hby := HTAIL.out t htl
        obtain ⟨dt, hdt⟩ : ∃ dt, f.dat.take t = dt := ⟨_, rfl⟩
        have HDT : Hid (f.dat.take t = dt) := hdt
        rw [hdt] at hby
        clear hdt hte hln csl
        go_wp2_with fail
        go_region_held3 (fun w' => w'.cell? ⟨B, 0, none⟩ = some (.slice (some ⟨g, 0, none⟩) fs.length cap) ∧ w'.cell? ⟨g, k * 3, none⟩ = some (.string ⟨f.nm.toArray⟩) ∧ w'.cell? ⟨B, 3, none⟩ = some (.string ⟨l.toArray⟩)) (go_keep) (fail)
        go_wp2_with fail
        go_region_law (first
          | (go_simp; go_at_call 49; refine hby.mono ?_; rintro e w3 ⟨v3, rfl, hO3, hB3⟩; obtain ⟨ba, bc, rfl, -, -⟩ := hO3.shape; have n0 := (hB3.cell (p := ⟨B, 0, none⟩) hBlt).trans m0; have n1 := (hB3.cell (p := ⟨g, k * 3 + 1, none⟩) hglt).trans c1; have n2 := (hB3.cell (p := ⟨g, k * 3 + 2, none⟩) hglt).trans c2; have n3 := (hB3.frozen (p := ⟨g, k * 3 + 1, none⟩) hglt).trans (hfz _); have n4 := (hB3.frozen (p := ⟨g, k * 3 + 2, none⟩) hglt).trans (hfz _))
          | fail)
        all_goals (
          have p0 : (w3.setCell ⟨g, k * 3 + 1, none⟩ (.slice ba dt.length bc)).cell? ⟨B, 0, none⟩ = some (.slice (some ⟨g, 0, none⟩) fs.length cap) := cell_other hgB n0
          have p2 : (w3.setCell ⟨g, k * 3 + 1, none⟩ (.slice ba dt.length bc)).cell? ⟨g, k * 3 + 2, none⟩ = some (.int .i64 (sy : Int)) := cell_beside (by omega) n2
          have p4 : (w3.setCell ⟨g, k * 3 + 1, none⟩ (.slice ba dt.length bc)).frozen? ⟨g, k * 3 + 2, none⟩ = false := (frozen_set _ _ _ _ _).trans n4
          clear n0 n1 n2 n3 n4 c0 c1 c2 m0 hfz
          go_wp2
          exact ⟨⟨k + 1, _, by go_num, by omega, CrI.step HI.out HG.out hgB hlt HF.out hB3 hO3 HDT.out.symm HSY.out HT.out⟩, by simp [intOf]; omega⟩)
      · have hln' : (f.nm == l) = false := by simpa using hln
        have HT : Hid (sy = crN (f.nm == l) keep sy f.dat.length) := by show sy = _; rw [hln']; rfl
        have ht0 : (0 : Int) ≤ (sy : Int) := by omega
        have htc : (sy : Int) ≤ (f.c : Int) := by omega
        have hby := HTAIL.out sy hsl
        obtain ⟨dt, hdt⟩ : ∃ dt, f.dat.take sy = dt := ⟨_, rfl⟩
        have HDT : Hid (f.dat.take sy = dt) := hdt
        rw [hdt] at hby
        clear hdt hln csl
        go_wp2_with fail
        go_region_held3 (fun w' => w'.cell? ⟨B, 0, none⟩ = some (.slice (some ⟨g, 0, none⟩) fs.length cap) ∧ w'.cell? ⟨g, k * 3, none⟩ = some (.string ⟨f.nm.toArray⟩) ∧ w'.cell? ⟨B, 3, none⟩ = some (.string ⟨l.toArray⟩)) (go_keep) (fail)
        go_wp2_with fail
        go_region_law (first
          | (go_simp; go_at_call 49; refine hby.mono ?_; rintro e w3 ⟨v3, rfl, hO3, hB3⟩; obtain ⟨ba, bc, rfl, -, -⟩ := hO3.shape; have n0 := (hB3.cell (p := ⟨B, 0, none⟩) hBlt).trans m0; have n1 := (hB3.cell (p := ⟨g, k * 3 + 1, none⟩) hglt).trans c1; have n2 := (hB3.cell (p := ⟨g, k * 3 + 2, none⟩) hglt).trans c2; have n3 := (hB3.frozen (p := ⟨g, k * 3 + 1, none⟩) hglt).trans (hfz _); have n4 := (hB3.frozen (p := ⟨g, k * 3 + 2, none⟩) hglt).trans (hfz _))
          | fail)
        all_goals (
          have p0 : (w3.setCell ⟨g, k * 3 + 1, none⟩ (.slice ba dt.length bc)).cell? ⟨B, 0, none⟩ = some (.slice (some ⟨g, 0, none⟩) fs.length cap) := cell_other hgB n0
          have p2 : (w3.setCell ⟨g, k * 3 + 1, none⟩ (.slice ba dt.length bc)).cell? ⟨g, k * 3 + 2, none⟩ = some (.int .i64 (sy : Int)) := cell_beside (by omega) n2
          have p4 : (w3.setCell ⟨g, k * 3 + 1, none⟩ (.slice ba dt.length bc)).frozen? ⟨g, k * 3 + 2, none⟩ = false := (frozen_set _ _ _ _ _).trans n4
          clear n0 n1 n2 n3 n4 c0 c1 c2 m0 hfz
          go_wp2
          exact ⟨⟨k + 1, _, by go_num, by omega, CrI.step HI.out HG.out hgB hlt HF.out hB3 hO3 HDT.out.symm HSY.out HT.out⟩, by simp [intOf]; omega⟩)
    · have hge : decide ((k : Int) < (fs.length : Int)) = false := by simp; omega
      obtain ⟨m0, m1, m2, m3, z0, z1, z2, z3⟩ := hI.rd.cells
      have HE : Hid (crI keep k p.fs = p.fs.map (crK keep)) := by
        show crI keep k p.fs = _
        have e1 := congrArg List.length (crI_nm keep k p.fs)
        have e2 := hI.rd.len
        have e3 := hI.len
        simp only [List.length_map] at e1
        simp only at e2
        unfold crI
        rw [List.take_of_length_le (by omega), List.drop_eq_nil_of_le (by omega), List.append_nil]
      clear hI
      go_wp2
      go_end0
      have hr := HI.out.rd
      rw [HE.out] at hr
      have hO2 : Out S w wr := HI.out.out.mono (fun i hi => by rw [hi]; exact HSG.out)
      exact ⟨rfl, crash_done HH.out HG.out hr hO2 HI.out.new (((Out.set (X := (· = B)) rfl).trans (Out.set (X := (· = B)) rfl) (fun i hi _ => hi)).trans (Out.set (X := (· = B)) rfl) (fun i hi _ => hi)) (by simpa using heap_set (heap_set (heap_set hr.hd 1 (.int .i64 0)) 2 (.bool false)) 3 (.string ⟨#[]⟩))⟩
end Go.Proofs.Ytbjnhohfdpdcnaa
