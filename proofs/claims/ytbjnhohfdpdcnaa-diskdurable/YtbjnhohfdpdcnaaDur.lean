/-
  DiskDurable: the walk of the law.
-/
import Derived.Test.YtbjnhohfdpdcnaaFir
namespace Go.Proofs.Ytbjnhohfdpdcnaa
open Go.RowKit
set_option linter.unusedVariables false

theorem FilesIn.out {N : Nat} {S : Nat → Prop} {w w' : World} {v : Value} {fs : List Fl} (h : FilesIn N w v fs) (hO : Out S w w') (hS : ∀ i, S i → i < N) : FilesIn N w' v fs := by
  refine ⟨⟨h.row.1, ?_⟩, fun f hf => (h.own f hf).out hO (fun g hg hs => by have := (World.ownsRow.lt (h.own f hf) g hg).1; have := hS g hs; omega)⟩
  rcases h.row.2 with h2 | ⟨g, cap, cur, e, hg, hb, r⟩
  · exact .inl h2
  · exact .inr ⟨g, cap, cur, e, hg, (hO.block g (Array.getElem?_eq_some_iff.1 hb).1 (fun hs => by have := hS g hs; omega)).trans hb, r⟩
theorem FilesIn.below {N : Nat} {w w' : World} {v : Value} {fs : List Fl} (h : FilesIn N w v fs) (hB : Below w.heap.size w w') : FilesIn N w' v fs :=
  h.out (S := fun _ => False) (Out.of_below hB) (fun _ hf => hf.elim)
/-- Files, in new memory. -/
theorem files_new {N : Nat} {S : Nat → Prop} {w : World} {d : Nat} {p : PD} (h : Dsk N w S d p) :
    Calls Try.prog 27 #[.pointer (some ⟨d, 0, none⟩)] w fun r w' => ∃ a c fs, r = .returned (.slice a fs.length c) ∧ FilesIn w.heap.size w' (.slice a fs.length c) fs ∧ saysF fs = p.fs.map PF.says ∧ fs.length ≤ 256 ∧ Below w.heap.size w w' := by
  obtain ⟨k, hk, rfl, hS⟩ := h
  refine (files_any hk).mono ?_
  rintro r w' ⟨v, fs, rfl, hF, hs, hB⟩
  obtain ⟨a, c, rfl, _, _, hat⟩ := hF.at
  refine ⟨a, c, fs, rfl, hF, by rw [← says_pd]; exact hs, ?_, hB⟩
  have := congrArg List.length hs
  simp at this
  have := hk.few
  omega
theorem FilesIn.fls {N : Nat} {w : World} {a : Option Addr} {c : Nat} {fs : List Fl} (h : FilesIn N w (.slice a fs.length c) fs) : FlsAt w.heap.size w a fs ∧ fs.length ≤ c ∧ c ≤ maxLen := by
  obtain ⟨a', c', e, h1, h2, h3⟩ := h.at
  cases e
  exact ⟨h3, h1, h2⟩

def lates (fs : List PF) : Nat := (fs.filter fun f => f.late).length
/-- No more is durable than there is; one file at most is the last one. -/
theorem Dsk.sound {N : Nat} {S : Nat → Prop} {w : World} {d : Nat} {p : PD} (h : Dsk N w S d p) : (∀ f ∈ p.fs, f.syn ≤ f.dat.length) ∧ lates p.fs ≤ 1 := by
  obtain ⟨k, hk, rfl, hS⟩ := h
  refine ⟨fun f hf => ?_, ?_⟩
  · obtain ⟨r, hr, rfl⟩ := List.mem_map.1 hf
    exact (hk.fs r hr).syn
  · show ((k.rs.map (Rw.pf k.last)).filter fun f => f.late).length ≤ 1
    rw [List.filter_map, List.length_map]
    have hp := hk.ap
    generalize k.rs = rs at hp
    induction rs with
    | nil => simp
    | cons r t ih =>
      obtain ⟨h1, h2⟩ := List.pairwise_cons.1 hp
      rw [List.filter_cons]
      split
      · rename_i hl
        have hl' : k.last = some r.b := by simpa [Function.comp, Rw.pf] using hl
        have e : t.filter ((fun f => f.late) ∘ Rw.pf k.last) = [] := List.filter_eq_nil_iff.2 (fun q hq => by
          simp only [Function.comp, Rw.pf, hl']
          simp
          exact (h1 q hq).1)
        rw [e]; simp
      · exact ih h2
theorem crash_facts (keep : Int) {f : PF} (hf : f.syn ≤ f.dat.length) : (crashP keep f).nm = f.nm ∧ (crashP keep f).dat = f.dat.take (crashP keep f).syn ∧ (crashP keep f).syn ≤ f.dat.length ∧ f.syn ≤ (crashP keep f).syn ∧ (crashP keep f).syn ≤ f.syn + keep.toNat ∧ (f.late = false → (crashP keep f).syn = f.syn) := by
  unfold crashP
  cases f.late <;> simp <;> omega
theorem crash_twice (keep again : Int) {p : PD} (hp : ∀ f ∈ p.fs, f.syn ≤ f.dat.length) : (doCrash (doCrash p keep) again).fs.map PF.says = (doCrash p keep).fs.map PF.says := by
  show (((p.fs.map (crashP keep)).map (crashP again)).map PF.says) = ((p.fs.map (crashP keep)).map PF.says)
  rw [List.map_map, List.map_map, List.map_map]
  refine List.map_congr_left fun f hf => ?_
  obtain ⟨h1, h2, h3, h4, h5, h6⟩ := crash_facts keep (hp f hf)
  show PF.says (crashP again (crashP keep f)) = PF.says (crashP keep f)
  have e : (crashP keep f).late = false := rfl
  have hl : (crashP keep f).dat.length = (crashP keep f).syn := by rw [h2]; simp; omega
  generalize crashP keep f = g at *
  unfold crashP PF.says
  rw [e]
  simp [← hl]
theorem saysF_at {fs : List Fl} {l : List PF} (h : saysF fs = l.map PF.says) {i : Nat} (hi : i < fs.length) (hl : i < l.length) : (fs.getD i nilFl).says = (l[i]).says := by
  have := congrArg (fun x => x[i]?) h
  simp [saysF, hi, hl] at this
  rw [List.getD_eq_getElem?_getD, List.getElem?_eq_getElem hi]
  exact this
theorem lates_step {l : List PF} {i : Nat} (h : i < l.length) : lates (l.take (i + 1)) = lates (l.take i) + (if l[i].late then 1 else 0) := by
  unfold lates
  rw [List.take_succ_eq_append_getElem h, List.filter_append, List.length_append]
  cases hh : l[i].late <;> simp [hh]
theorem lates_take (l : List PF) (i : Nat) : lates (l.take i) ≤ lates l := by
  unfold lates
  exact ((List.take_sublist i l).filter _).length_le

set_option maxRecDepth 100000 in
set_option maxHeartbeats 20000000 in
theorem diskDurable_walk (a : Option Addr) (ca : Nat) (l : List Opn) (keep again : Int) (w : World) (hl : OpsAt w.heap.size w a l) (hll : l.length ≤ 9223372036854775807) (hkk : -9223372036854775808 ≤ keep ∧ keep ≤ 9223372036854775807) :
    Calls Try.prog 6 #[.slice a l.length ca, .int .i64 keep, .int .i64 again] w fun e w' => e = .returned (.bool true) ∧ Below w.heap.size w w' := by
  have HL : Hid (OpsAt w.heap.size w a l) := hl
  clear hl
  go_enter Try.func6, Try.ntmps6
  go_wp2_with fail
  refine (first_any w).mono ?_
  rintro e w1 ⟨rfl, hB1⟩
  go_wp2_with fail
  refine (few_any a ca l w.heap.size w1 (HL.out.below hB1) hB1.size hll).mono ?_
  rintro e w2 ⟨⟨b1, rfl⟩, hB2⟩
  have HB2 : Hid (Below w.heap.size w w2) := hB1.trans (hB2.mono hB1.size)
  clear hB1 hB2
  cases b1 with
  | false =>
    go_wp2
    go_ret
    exact ⟨rfl, HB2.out⟩
  | true =>
  go_wp2_with fail
  refine (made_any _ ca l w.heap.size w2 (HL.out.below HB2.out) HB2.out.size hll).mono ?_
  rintro e w3 ⟨d, S, rfl, hD, hB3⟩
  have HB3 : Hid (Below w.heap.size w w3) := HB2.out.trans (hB3.mono HB2.out.size)
  obtain ⟨hsnd, hlat⟩ := hD.sound
  have HSN : Hid (∀ f ∈ (madeP l).fs, f.syn ≤ f.dat.length) := hsnd
  generalize madeP l = p at *
  go_wp2_with fail
  refine (files_new hD).mono ?_
  rintro e w4 ⟨wa, wc, was, rfl, hF4, hs4, hl4, hB4⟩
  have HB4 : Hid (Below w.heap.size w w4) := HB3.out.trans (hB4.mono HB3.out.size)
  have hin := hD.inn
  go_wp2_with fail
  refine (crash_dsk (hD.below hB4) (by have := hB3.size; have := hB4.size; omega) keep).mono ?_
  rintro e w5 ⟨rfl, hT5⟩
  have HB5 : Hid (Below w.heap.size w w5) := HB4.out.trans (hT5.bel.mono HB2.out.size)
  have hF5 := hF4.out hT5.out (fun i hi => hin i hi)
  have hD5 := hT5.dsk
  go_wp2_with fail
  refine (files_new hD5).mono ?_
  rintro e w6 ⟨na, nc, now, rfl, hG6, hs6, hl6, hB6⟩
  have HB6 : Hid (Below w.heap.size w w6) := HB5.out.trans (hB6.mono HB5.out.size)
  have hF6 := hF5.below hB6
  have hD6 := hD5.below hB6
  have HD6 : Hid (Dsk w2.heap.size w6 (grew S w4 w5) d (doCrash p keep)) := hD6
  have HW : Hid (FlsAt w6.heap.size w6 wa was) := hF6.fls.1
  have HN : Hid (FlsAt w6.heap.size w6 na now) := hG6.fls.1
  have hwc := hF6.fls.2
  obtain ⟨hwc1, hwc2⟩ := hwc
  unfold maxLen at hwc2
  have HGN : Hid (FilesIn w5.heap.size w6 (.slice na now.length nc) now) := hG6
  have HIN : Hid (∀ i, grew S w4 w5 i → i < w5.heap.size) := hD5.inn
  have HSW : Hid (saysF was = p.fs.map PF.says) := hs4
  have HSN6 : Hid (saysF now = (p.fs.map (crashP keep)).map PF.says) := hs6
  have hlw : was.length = p.fs.length := by have := congrArg List.length hs4; simpa [saysF] using this
  have hln : now.length = p.fs.length := by have := congrArg List.length hs6; simpa [saysF, doCrash] using this
  have HZ : Hid (w2.heap.size ≤ w6.heap.size) := Nat.le_trans hB3.size (Nat.le_trans hB4.size (Nat.le_trans hT5.out.size hB6.size))
  have hdn : (doCrash p keep).dn = false := rfl
  have hdw := down_dsk hD6
  rw [hdn] at hdw
  have HLW : Hid (was.length = p.fs.length) := hlw
  have HLN : Hid (now.length = p.fs.length) := hln
  have hzz : now.length = was.length := by omega
  have hnp : now.length ≤ 256 := hl6
  rw [show (was.length) = now.length from hzz.symm]
  clear hF4 hF5 hF6 hG6 hs4 hs6 hT5 hD hD5 hD6 hB3 hB4 hB6 hlw hln hzz hl4 hin hsnd
  go_wp2_with (go_at_call 29; refine hdw.mono ?_; rintro e wz ⟨rfl, hwz⟩; rw [hwz]; clear hwz)
  go_loopw [12, 13] (fun mv iv wr => ∃ (i mo : Nat), iv = .int .i64 (i : Int) ∧ mv = .int .i64 (mo : Int) ∧ i ≤ now.length ∧ mo ≤ lates (p.fs.take i) ∧ Below w6.heap.size w6 wr) (fun _ iv _ => now.length - (intOf iv).toNat)
  case atStart => exact ⟨0, 0, rfl, rfl, Nat.zero_le _, Nat.zero_le _, Below.refl _ _⟩
  case round =>
    obtain ⟨i, mo, rfl, rfl, hi, hmo, hB⟩ := hrel
    have HB : Hid (Below w6.heap.size w6 wr) := hB
    have hmo1 : mo ≤ 1 := by have := lates_take p.fs i; omega
    by_cases hlt : i < now.length
    · have hiw : i < was.length := by have := HLW.out; have := HLN.out; omega
      have hip : i < p.fs.length := by have := HLN.out; omega
      obtain ⟨b1, o1, rfl, hb1, hx1⟩ := HN.out.at hlt
      obtain ⟨b2, o2, rfl, hb2, hx2⟩ := HW.out.at hiw
      have hx1 := hx1.below hb1 hB
      have hx2 := hx2.below hb2 hB
      have hsw := saysF_at HSW.out hiw hip
      have hsn := saysF_at HSN6.out hlt (by simpa using hip)
      rw [List.getElem_map] at hsn
      have hst := lates_step hip
      obtain ⟨hf1, hf2, hf3, hf4, hf5, hf6⟩ := crash_facts keep (HSN.out _ (List.getElem_mem hip))
      generalize p.fs[i] = f at *
      generalize was.getD i nilFl = fw at *
      generalize now.getD i nilFl = fn at *
      obtain ⟨n1, a1, c1, d1, y1⟩ := fn
      obtain ⟨n2, a2, c2, d2, y2⟩ := fw
      obtain ⟨nm, fd, fy, la⟩ := f
      simp only [Fl.says, PF.says, Prod.mk.injEq] at hsw hsn
      obtain ⟨rfl, rfl, rfl⟩ := hsw
      rw [hf1, hf2] at hsn
      simp only at hf1 hf3 hf4 hf5 hf6 hsn hst
      generalize (crashP keep ⟨n2, d2, fy, la⟩).syn = s at *
      obtain ⟨rfl, rfl, rfl⟩ := hsn
      have hsl : (d2.take s).length = s := by simp; omega
      obtain ⟨p0, p1, p2, p3⟩ := hx1
      obtain ⟨q0, q1, q2, q3⟩ := hx2
      unfold Fl.x at p1 p3 q1 q3
      simp only at p0 p1 p2 p3 q0 q1 q2 q3
      have hp : ∀ nq : Nat, Calls Try.prog 30 #[.slice a1 s c1, .slice a2 s c2] (wr.drewN nq).drew fun e w' => e = .returned (.bool true) ∧ ∃ n, w' = (wr.drewN nq).drew.drewN n := fun nq => by
        have hdr : Below w6.heap.size wr (wr.drewN nq).drew := ⟨rfl, rfl, rfl, Nat.le_refl _, fun _ _ => rfl⟩
        have := same_any w6.heap.size _ _ (d2.take s) (d2.take s) (wr.drewN nq).drew (p3.below hdr) ((q3.front s hf3).below hdr)
        rw [hsl] at this
        simpa using this
      have hq2 : (s : Int) ≤ (c2 : Int) ∧ d2.length ≤ c2 ∧ c2 ≤ 9223372036854775807 := by
        obtain ⟨_, _, e, h7, h8, _⟩ := q3
        cases e
        unfold maxLen at h8
        omega
      obtain ⟨hq2, hq3, hq4⟩ := hq2
      rw [hsl] at p1
      have hi1 : (i : Int) < (now.length : Int) := by omega
      have hi2 : (i : Int) < (was.length : Int) := by omega
      have hi0 : (0 : Int) ≤ (i : Int) := by omega
      have hA1 : decide ((s : Int) < (fy : Int)) = false := by simp; omega
      have hA2 : decide ((d2.length : Int) < (s : Int)) = false := by simp; omega
      have HL0 : Hid (mo ≤ lates (p.fs.take (i + 1))) := by show mo ≤ _; rw [hst]; omega
      have HLe : Hid (s ≠ fy → mo + 1 ≤ lates (p.fs.take (i + 1))) := fun hne => by
        rw [hst]
        cases la with
        | true => simp; omega
        | false => exact absurd (hf6 rfl) hne
      have HF5 : Hid (s ≤ fy + keep.toNat) := hf5
      clear hst hf6 p3 q3 hB hf1 hf2 hmo hf5
      by_cases hk : 0 ≤ keep
      · have hA3 : decide (keep < (s : Int) - (fy : Int)) = false := by have := HF5.out; simp; omega
        by_cases hm : s = fy
        · have hA4 : decide ((fy : Int) < (s : Int)) = false := by simp; omega
          have hA5 : (s : Int) ≤ (fy : Int) := by omega
          have hA6 : (s : Int) - (fy : Int) ≤ keep := by have := HF5.out; omega
          clear hm
          go_wp2_with fail
          go_quiet (fail)
          go_wp2_with fail
          go_region_held3 (fun w' => w'.cell? ⟨b1, o1 + i * 3, none⟩ = some (.string ⟨n1.toArray⟩) ∧ w'.cell? ⟨b1, o1 + i * 3 + 1, none⟩ = some (.slice a1 s c1) ∧ w'.cell? ⟨b1, o1 + i * 3 + 2, none⟩ = some (.int .i64 (s : Int)) ∧ w'.cell? ⟨b2, o2 + i * 3, none⟩ = some (.string ⟨n1.toArray⟩) ∧ w'.cell? ⟨b2, o2 + i * 3 + 1, none⟩ = some (.slice a2 d2.length c2) ∧ w'.cell? ⟨b2, o2 + i * 3 + 2, none⟩ = some (.int .i64 (fy : Int))) (go_keep)
            (first | (go_at_call 30; refine (hp nq).mono ?_; rintro e w5 ⟨rfl, nn, rfl⟩) | fail)
          go_wp2
          exact ⟨⟨i + 1, mo, by go_num, by go_num, by omega, HL0.out, HB.out.trans ⟨rfl, rfl, rfl, Nat.le_refl _, fun _ _ => rfl⟩⟩, by simp [intOf]; omega⟩
        · have hA4 : (fy : Int) < (s : Int) := by omega
          have HL1 : Hid (mo + 1 ≤ lates (p.fs.take (i + 1))) := HLe.out hm
          have hA6 : (s : Int) - (fy : Int) ≤ keep := by have := HF5.out; omega
          clear hm
          go_wp2_with fail
          go_quiet (fail)
          go_wp2_with fail
          go_region_held3 (fun w' => w'.cell? ⟨b1, o1 + i * 3, none⟩ = some (.string ⟨n1.toArray⟩) ∧ w'.cell? ⟨b1, o1 + i * 3 + 1, none⟩ = some (.slice a1 s c1) ∧ w'.cell? ⟨b1, o1 + i * 3 + 2, none⟩ = some (.int .i64 (s : Int)) ∧ w'.cell? ⟨b2, o2 + i * 3, none⟩ = some (.string ⟨n1.toArray⟩) ∧ w'.cell? ⟨b2, o2 + i * 3 + 1, none⟩ = some (.slice a2 d2.length c2) ∧ w'.cell? ⟨b2, o2 + i * 3 + 2, none⟩ = some (.int .i64 (fy : Int))) (go_keep)
            (first | (go_at_call 30; refine (hp nq).mono ?_; rintro e w5 ⟨rfl, nn, rfl⟩) | fail)
          go_wp2
          exact ⟨⟨i + 1, mo + 1, by go_num, by go_num, by omega, HL1.out, HB.out.trans ⟨rfl, rfl, rfl, Nat.le_refl _, fun _ _ => rfl⟩⟩, by simp [intOf]; omega⟩
      · have hA3 : decide (0 < (s : Int) - (fy : Int)) = false := by have := HF5.out; simp; omega
        have hA4 : decide ((fy : Int) < (s : Int)) = false := by have := HF5.out; simp; omega
        have hA5 : (s : Int) ≤ (fy : Int) := by have := HF5.out; omega
        have hA6 : (s : Int) - (fy : Int) ≤ 0 := by have := HF5.out; omega
        go_wp2_with fail
        go_quiet (fail)
        go_wp2_with fail
        go_region_held3 (fun w' => w'.cell? ⟨b1, o1 + i * 3, none⟩ = some (.string ⟨n1.toArray⟩) ∧ w'.cell? ⟨b1, o1 + i * 3 + 1, none⟩ = some (.slice a1 s c1) ∧ w'.cell? ⟨b1, o1 + i * 3 + 2, none⟩ = some (.int .i64 (s : Int)) ∧ w'.cell? ⟨b2, o2 + i * 3, none⟩ = some (.string ⟨n1.toArray⟩) ∧ w'.cell? ⟨b2, o2 + i * 3 + 1, none⟩ = some (.slice a2 d2.length c2) ∧ w'.cell? ⟨b2, o2 + i * 3 + 2, none⟩ = some (.int .i64 (fy : Int))) (go_keep)
          (first | (go_at_call 30; refine (hp nq).mono ?_; rintro e w5 ⟨rfl, nn, rfl⟩) | fail)
        go_wp2
        exact ⟨⟨i + 1, mo, by go_num, by go_num, by omega, HL0.out, HB.out.trans ⟨rfl, rfl, rfl, Nat.le_refl _, fun _ _ => rfl⟩⟩, by simp [intOf]; omega⟩
    · have HD8 := HD6.out.below hB
      have HB8 : Hid (Below w.heap.size w wr) := HB6.out.trans (hB.mono HB6.out.size)
      go_wp2_with fail
      refine (crash_dsk HD8 (Nat.le_trans HZ.out hB.size) again).mono ?_
      rintro e w9 ⟨rfl, hT9⟩
      have HB9 : Hid (Below w.heap.size w w9) := HB8.out.trans (hT9.bel.mono HB2.out.size)
      have hN9 := (HGN.out.below hB).out hT9.out (fun j hj => HIN.out j hj)
      go_wp2_with fail
      refine (files_new hT9.dsk).mono ?_
      rintro e w10 ⟨ta, tc, ts, rfl, hF10, hs10, hl10, hB10⟩
      have hN10 := (hN9.below hB10).fls.1
      have hsm := sameFiles_any ta na tc nc ts now w10.heap.size w10 hF10.fls.1 hN10 (Nat.le_refl _) (by omega)
      rw [show decide (saysF ts = saysF now) = true from by rw [hs10, crash_twice keep again HSN.out, HSN6.out]; simp [doCrash]] at hsm
      go_wp2_with fail
      refine hsm.mono ?_
      rintro e w11 ⟨rfl, hB11⟩
      have hmi : (mo : Int) ≤ 1 := by omega
      go_wp2
      go_ret
      exact ⟨rfl, HB9.out.trans ((hB10.trans (hB11.mono hB10.size)).mono HB9.out.size)⟩

end Go.Proofs.Ytbjnhohfdpdcnaa
