/-
  Entries of a log; whether entries are the same.
-/
import Derived.Test.YteekpfgjpdopmaaSp
import Derived.Test.YteekpfgjpdopmaaCk
namespace Go.Proofs.Yteekpfgjpdopmaa
open Go.RowKit
set_option linter.unusedVariables false

/-- Entries' error. -/
def enE (P : PL) (i : Int) : Nat := if i ≤ P.bi then 14 else if P.li + 1 < i then 8 else 0
/-- Entries' list. -/
def enL (P : PL) (i most : Int) : List En := if enE P i = 0 then (P.E.drop (i - 1 - P.bi).toNat).take (cnt (i - 1) P.li most) else []

set_option maxRecDepth 100000 in
set_option maxHeartbeats 4000000 in
/-- Entries. -/
theorem Entries_any {N : Nat} {S : Nat → Prop} {w : World} {b : Nat} {P : PL} (h : Lg N S w b P) (i most : Int) :
    Calls Try.prog 27 #[.pointer (some ⟨b, 0, none⟩), .int .i64 i, .int .i64 most] w fun e w' => ∃ v fs, e = .returned (.tuple #[v, .int .i64 (enE P i : Int)]) ∧ EntsOw w.heap.size w' v fs ∧ fs.map Ent.says = enL P i most ∧ Below w.heap.size w w' := by
  have HL : Hid (Calls _ _ _ _ _) := last_any h
  have hlim := h.ok.lim
  have hb0 := h.ok.b0
  have hbw := h.inn _ h.Sb
  obtain ⟨va, vc, es, hb, -⟩ := h.cells
  have HC : Hid (∀ w1, Below w.heap.size w w1 → w1.cell? ⟨b, 0, none⟩ = some (.int .i64 P.bi) ∧ b < w1.heap.size) := fun w1 hB => ⟨(hB.cell (p := ⟨b, 0, none⟩) hbw).trans (cells8 hb).1.1, by have := hB.size; omega⟩
  have hfi := place_index
  by_cases h1 : i ≤ P.bi
  · have e1 : enE P i = 14 := by unfold enE; rw [if_pos h1]
    have e2 : enL P i most = [] := by unfold enL; rw [e1]; rfl
    rw [e1, e2]
    clear h hb e1 e2
    generalize P.li = li at *
    go_enter Try.func27, Try.ntmps27
    go_wp2_with fail
    refine HL.out.mono ?_
    rintro r w1 ⟨rfl, hB1⟩
    obtain ⟨k0, hb1⟩ := HC.out w1 hB1
    go_wp2
    go_returns
    exact ⟨_, [], rfl, EntsOw.nil _ _, rfl, hB1⟩
  · by_cases h2 : P.li + 1 < i
    · have e1 : enE P i = 8 := by unfold enE; rw [if_neg h1, if_pos h2]
      have e2 : enL P i most = [] := by unfold enL; rw [e1]; rfl
      rw [e1, e2]
      clear h hb e1 e2
      generalize P.li = li at *
      go_enter Try.func27, Try.ntmps27
      go_wp2_with fail
      refine HL.out.mono ?_
      rintro r w1 ⟨rfl, hB1⟩
      obtain ⟨k0, hb1⟩ := HC.out w1 hB1
      go_wp2
      go_returns
      exact ⟨_, [], rfl, EntsOw.nil _ _, rfl, hB1⟩
    · have e1 : enE P i = 0 := by unfold enE; rw [if_neg h1, if_neg h2]
      have e2 : enL P i most = (P.E.drop (i - 1 - P.bi).toNat).take (cnt (i - 1) P.li most) := by unfold enL; rw [e1]; rfl
      obtain ⟨n0, hn0⟩ : ∃ n0 : Nat, i - 1 = P.bi + (n0 : Int) := ⟨(i - 1 - P.bi).toNat, by omega⟩
      have hn1 : (i - 1 - P.bi).toNat = n0 := by omega
      rw [e1, e2, hn1]
      have HSP : Hid (∀ w1, Below w.heap.size w w1 → Calls Try.prog 76 #[.pointer (some ⟨b, 0, none⟩), .int .i64 (i - 1), .int .i64 P.li, .int .i64 most] w1 fun e w' => ∃ v fs, e = .returned v ∧ EntsOw w.heap.size w' v fs ∧ fs.map Ent.says = (P.E.drop n0).take (cnt (i - 1) P.li most) ∧ Below w.heap.size w w') := fun w1 hB => by
        have := span_any (h.below hB) n0 P.li most (by omega) (Int.le_refl _)
        rw [← hn0] at this
        refine this.mono ?_
        rintro e w' ⟨v, fs, rfl, q1, q2, q3⟩
        exact ⟨v, fs, rfl, q1.base hB.size, q2, hB.trans (q3.mono hB.size)⟩
      clear h hb e1 e2 hn0 hn1
      generalize (P.E.drop n0).take (cnt (i - 1) P.li most) = L at *
      generalize P.li = li at *
      go_enter Try.func27, Try.ntmps27
      go_wp2_with fail
      refine HL.out.mono ?_
      rintro r w1 ⟨rfl, hB1⟩
      obtain ⟨k0, hb1⟩ := HC.out w1 hB1
      go_wp2_with fail
      refine (HSP.out w1 hB1).mono ?_
      rintro r w2 ⟨v, fs, rfl, q1, q2, q3⟩
      go_wp2
      go_returns
      exact ⟨v, fs, rfl, q1, q2, q3⟩

set_option maxRecDepth 100000 in
set_option maxHeartbeats 4000000 in
/-- SameEntry. -/
theorem sameEntry_any (e f : Ent) (M : Nat) (w : World) (h1 : Sl M w e.x e.d) (h2 : Sl M w f.x f.d) (hM : M ≤ w.heap.size) :
    Calls Try.prog 68 #[e.v, f.v] w fun r w' => r = .returned (.bool (decide (e.says = f.says))) ∧ Below w.heap.size w w' := by
  obtain ⟨et, ei, ek, ea, ec, ed⟩ := e
  obtain ⟨ft, fi, fk, fa, fc, fd⟩ := f
  obtain ⟨W2, hW2⟩ : ∃ W2, (w.alloc (.cells #[.int .i64 et, .int .i64 ei, .int .i64 ek, .slice ea ed.length ec] 40)).alloc (.cells #[.int .i64 ft, .int .i64 fi, .int .i64 fk, .slice fa fd.length fc] 40) = W2 := ⟨_, rfl⟩
  have HW2 : Hid ((w.alloc (.cells #[.int .i64 et, .int .i64 ei, .int .i64 ek, .slice ea ed.length ec] 40)).alloc (.cells #[.int .i64 ft, .int .i64 fi, .int .i64 fk, .slice fa fd.length fc] 40) = W2) := hW2
  have HB : Hid (Below w.heap.size w W2) := by show Below _ _ _; rw [← hW2]; exact ((Below.refl _ w).alloc (by simp) _).alloc (by simp) _
  have hx0 : W2.heap[w.heap.size]? = some (.cells #[.int .i64 et, .int .i64 ei, .int .i64 ek, .slice ea ed.length ec] 40 (0, 0)) := by rw [← hW2]; exact (heap_alloc_old _ _ (by simp)).trans (heap_alloc_new w _)
  have hx1 : W2.heap[w.heap.size + 1]? = some (.cells #[.int .i64 ft, .int .i64 fi, .int .i64 fk, .slice fa fd.length fc] 40 (0, 0)) := by
    rw [← hW2]
    have := heap_alloc_new (w.alloc (.cells #[.int .i64 et, .int .i64 ei, .int .i64 ek, .slice ea ed.length ec] 40)) (.cells #[.int .i64 ft, .int .i64 fi, .int .i64 fk, .slice fa fd.length fc] 40)
    rw [World.size_alloc] at this
    exact this
  have hs := same_any M _ _ ed fd W2 (h1.below (HB.out.mono hM)) (h2.below (HB.out.mono hM))
  have HCE : Hid (∀ n, (W2.drewN n).cell? ⟨w.heap.size, 0, none⟩ = some (.int .i64 et) ∧ (W2.drewN n).cell? ⟨w.heap.size, 1, none⟩ = some (.int .i64 ei) ∧ (W2.drewN n).cell? ⟨w.heap.size, 2, none⟩ = some (.int .i64 ek) ∧ (W2.drewN n).cell? ⟨w.heap.size, 3, none⟩ = some (.slice ea ed.length ec)) := fun n => (cells4 (w := W2.drewN n) hx0).1
  have HCF : Hid (∀ n, (W2.drewN n).cell? ⟨w.heap.size + 1, 0, none⟩ = some (.int .i64 ft) ∧ (W2.drewN n).cell? ⟨w.heap.size + 1, 1, none⟩ = some (.int .i64 fi) ∧ (W2.drewN n).cell? ⟨w.heap.size + 1, 2, none⟩ = some (.int .i64 fk) ∧ (W2.drewN n).cell? ⟨w.heap.size + 1, 3, none⟩ = some (.slice fa fd.length fc)) := fun n => (cells4 (w := W2.drewN n) hx1).1
  obtain ⟨⟨a0, a1, a2, a3⟩, -⟩ := cells4 hx0
  obtain ⟨⟨b0, b1, b2, b3⟩, -⟩ := cells4 hx1
  have HD : Hid (decide (Ent.says ⟨et, ei, ek, ea, ec, ed⟩ = Ent.says ⟨ft, fi, fk, fa, fc, fd⟩) = (decide (ed = fd) && (et == ft) && (ei == fi) && (ek == fk))) := by
    show _ = _
    rw [Bool.eq_iff_iff]
    simp [Ent.says]
    constructor
    · rintro ⟨p1, p2, p3, p4⟩; exact ⟨⟨⟨p4, p1⟩, p2⟩, p3⟩
    · rintro ⟨⟨⟨p1, p2⟩, p3⟩, p4⟩; exact ⟨p2, p3, p4, p1⟩
  rw [HD.out]
  unfold Ent.v Ent.x
  clear h1 h2 hx0 hx1 hW2
  generalize decide (ed = fd) = sd at *
  cases sd with
  | false =>
    go_enter Try.func68, Try.ntmps68
    go_wp2_with fail
    rw [HW2.out]
    refine hs.mono ?_
    rintro r w' ⟨rfl, n, rfl⟩
    go_wp2
    go_ret
    exact ⟨by simp, below_drewN HB.out n⟩
  | true =>
    go_enter Try.func68, Try.ntmps68
    go_wp2_with fail
    rw [HW2.out]
    refine hs.mono ?_
    rintro r w' ⟨rfl, n, hw'⟩
    obtain ⟨a0, a1, a2, -⟩ := HCE.out n
    obtain ⟨b0, b1, b2, -⟩ := HCF.out n
    have HBn : Hid (Below w.heap.size w (W2.drewN n)) := below_drewN HB.out n
    rw [← hw'] at a0 a1 a2 b0 b1 b2 HBn
    clear hw' HCE HCF HB
    by_cases e1 : et = ft
    · subst e1
      by_cases e2 : ei = fi
      · subst e2
        go_wp2
        go_ret
        exact ⟨by simp, HBn.out⟩
      · have e2' : (ei == fi) = false := by simpa using e2
        go_wp2
        go_ret
        exact ⟨by simp [e2], HBn.out⟩
    · have e1' : (et == ft) = false := by simpa using e1
      go_wp2
      go_ret
      exact ⟨by simp [e1], HBn.out⟩

set_option maxRecDepth 100000 in
set_option maxHeartbeats 4000000 in
/-- SameEntries. -/
theorem sameEntries_any (va vb : Option Addr) (ca cb : Nat) (es fs : List Ent) (M : Nat) (w : World) (h1 : EntsAt M w va es) (h2 : EntsAt M w vb fs) (hM : M ≤ w.heap.size) (hn : es.length ≤ 1000000) :
    Calls Try.prog 17 #[.slice va es.length ca, .slice vb fs.length cb] w fun r w' => r = .returned (.bool (decide (es.map Ent.says = fs.map Ent.says))) ∧ Below w.heap.size w w' := by
  by_cases hl : es.length = fs.length
  · obtain ⟨R, HR⟩ : ∃ R, Hid (decide (es.map Ent.says = fs.map Ent.says) = R) := ⟨_, rfl⟩
    rw [HR.out]
    have HA : Hid (EntsAt M w va es) := h1
    have HF : Hid (EntsAt M w vb fs) := h2
    have HM : Hid (M ≤ w.heap.size) := hM
    have HLL : Hid (es.length = fs.length) := hl
    have hne : ((es.length : Int) != (fs.length : Int)) = false := by simp [hl]
    have hnm : fs.length ≤ 1000000 := by omega
    clear h1 h2 hM hl
    go_enter Try.func17, Try.ntmps17
    go_wp2_with fail
    go_loopw [5] (fun iv wr => ∃ (k : Nat), iv = .int .i64 (k : Int) ∧ k ≤ es.length ∧ (∀ j, j < k → (es.getD j nilEnt).says = (fs.getD j nilEnt).says) ∧ Below w.heap.size w wr) (fun iv _ => es.length - (intOf iv).toNat)
    case atStart => exact ⟨0, rfl, Nat.zero_le _, fun j hj => by omega, Below.refl _ _⟩
    case round =>
      obtain ⟨k, rfl, hk, hj, hB⟩ := hrel
      have HJ : Hid (∀ j, j < k → (es.getD j nilEnt).says = (fs.getD j nilEnt).says) := hj
      have HB : Hid (Below w.heap.size w wr) := hB
      clear hj hB
      by_cases hlt : k < es.length
      · have hltf : k < fs.length := by have := HLL.out; omega
        obtain ⟨b1, o1, hea, hb1, he⟩ := HA.out.at hlt
        obtain ⟨b2, o2, hfb, hb2, hf⟩ := HF.out.at hltf
        subst hea
        subst hfb
        have he' := he.below hb1 (HB.out.mono HM.out)
        have hf' := hf.below hb2 (HB.out.mono HM.out)
        have HNX : Hid ((es.getD k nilEnt).says = (fs.getD k nilEnt).says → ∀ j, j < k + 1 → (es.getD j nilEnt).says = (fs.getD j nilEnt).says) := fun he j hj => by
          by_cases e : j = k
          · subst e; exact he
          · exact HJ.out j (by omega)
        have HNO : Hid ((es.getD k nilEnt).says ≠ (fs.getD k nilEnt).says → R = false) := fun hne => by
          rw [← HR.out, decide_eq_false_iff_not]
          intro h
          apply hne
          rw [← says_getD, ← says_getD, h]
        generalize es.getD k nilEnt = e at *
        generalize fs.getD k nilEnt = f at *
        have hs := sameEntry_any e f M wr.drew (he'.2.2.2.2.below ⟨rfl, rfl, rfl, Nat.le_refl _, fun _ _ => rfl⟩) (hf'.2.2.2.2.below ⟨rfl, rfl, rfl, Nat.le_refl _, fun _ _ => rfl⟩) (Nat.le_trans HM.out HB.out.size)
        obtain ⟨et, ei, ek, ea, ec, ed⟩ := e
        obtain ⟨ft, fi, fk, fa, fc, fd⟩ := f
        unfold Ent.v Ent.x at hs
        obtain ⟨c0, c1, c2, c3, -⟩ := he'
        obtain ⟨d0, d1, d2, d3, -⟩ := hf'
        unfold Ent.x at c3 d3
        simp only at c0 c1 c2 c3 d0 d1 d2 d3 hs
        have hbw1 : b1 < wr.heap.size := by have := HB.out.size; have := HM.out; omega
        have hbw2 : b2 < wr.heap.size := by have := HB.out.size; have := HM.out; omega
        have i0 : (0 : Int) ≤ (k : Int) := by omega
        have i1 : (k : Int) < (es.length : Int) := by omega
        have i2 : (k : Int) < (fs.length : Int) := by omega
        have HK : Hid (∀ w5, Below wr.heap.size wr w5 → ((w5.cell? ⟨b1, o1 + k * 4, none⟩ = some (.int .i64 et) ∧ w5.cell? ⟨b1, o1 + k * 4 + 1, none⟩ = some (.int .i64 ei) ∧ w5.cell? ⟨b1, o1 + k * 4 + 2, none⟩ = some (.int .i64 ek) ∧ w5.cell? ⟨b1, o1 + k * 4 + 3, none⟩ = some (.slice ea ed.length ec)) ∧ (w5.cell? ⟨b2, o2 + k * 4, none⟩ = some (.int .i64 ft) ∧ w5.cell? ⟨b2, o2 + k * 4 + 1, none⟩ = some (.int .i64 fi) ∧ w5.cell? ⟨b2, o2 + k * 4 + 2, none⟩ = some (.int .i64 fk) ∧ w5.cell? ⟨b2, o2 + k * 4 + 3, none⟩ = some (.slice fa fd.length fc))) ∧ Below w.heap.size w w5) := fun w5 h5 =>
          ⟨⟨⟨(h5.cell (p := ⟨b1, _, none⟩) hbw1).trans c0, (h5.cell (p := ⟨b1, _, none⟩) hbw1).trans c1, (h5.cell (p := ⟨b1, _, none⟩) hbw1).trans c2, (h5.cell (p := ⟨b1, _, none⟩) hbw1).trans c3⟩, (h5.cell (p := ⟨b2, _, none⟩) hbw2).trans d0, (h5.cell (p := ⟨b2, _, none⟩) hbw2).trans d1, (h5.cell (p := ⟨b2, _, none⟩) hbw2).trans d2, (h5.cell (p := ⟨b2, _, none⟩) hbw2).trans d3⟩, HB.out.trans (h5.mono HB.out.size)⟩
        clear he hf
        by_cases hsame : Ent.says ⟨et, ei, ek, ea, ec, ed⟩ = Ent.says ⟨ft, fi, fk, fa, fc, fd⟩
        · rw [decide_eq_true hsame] at hs
          have HNX2 : Hid (∀ j, j < k + 1 → (es.getD j nilEnt).says = (fs.getD j nilEnt).says) := HNX.out hsame
          clear hsame HNO HNX
          go_wp2_with fail
          go_region_held3 (fun w' => (w'.cell? ⟨b1, o1 + k * 4, none⟩ = some (.int .i64 et) ∧ w'.cell? ⟨b1, o1 + k * 4 + 1, none⟩ = some (.int .i64 ei) ∧ w'.cell? ⟨b1, o1 + k * 4 + 2, none⟩ = some (.int .i64 ek) ∧ w'.cell? ⟨b1, o1 + k * 4 + 3, none⟩ = some (.slice ea ed.length ec)) ∧ (w'.cell? ⟨b2, o2 + k * 4, none⟩ = some (.int .i64 ft) ∧ w'.cell? ⟨b2, o2 + k * 4 + 1, none⟩ = some (.int .i64 fi) ∧ w'.cell? ⟨b2, o2 + k * 4 + 2, none⟩ = some (.int .i64 fk) ∧ w'.cell? ⟨b2, o2 + k * 4 + 3, none⟩ = some (.slice fa fd.length fc))) (go_keep)
            (first
              | (go_at_call 68; refine hs.mono ?_; rintro r w5 ⟨rfl, hB5'⟩; obtain ⟨⟨⟨n0, n1, n2, n3⟩, m0, m1, m2, m3⟩, hB5⟩ := HK.out w5 ⟨hB5'.os, hB5'.tape, hB5'.output, hB5'.size, hB5'.block⟩; have HB5 : Hid (Below _ _ _) := hB5; clear hB5 hB5')
              | fail)
          go_wp2
          exact ⟨⟨k + 1, by go_num, by omega, HNX2.out, HB5.out⟩, by simp [intOf]; omega⟩
        · rw [decide_eq_false hsame] at hs
          have HNO2 : Hid (R = false) := HNO.out hsame
          clear hsame HNO HNX
          go_wp2_with fail
          go_region_held3 (fun w' => (w'.cell? ⟨b1, o1 + k * 4, none⟩ = some (.int .i64 et) ∧ w'.cell? ⟨b1, o1 + k * 4 + 1, none⟩ = some (.int .i64 ei) ∧ w'.cell? ⟨b1, o1 + k * 4 + 2, none⟩ = some (.int .i64 ek) ∧ w'.cell? ⟨b1, o1 + k * 4 + 3, none⟩ = some (.slice ea ed.length ec)) ∧ (w'.cell? ⟨b2, o2 + k * 4, none⟩ = some (.int .i64 ft) ∧ w'.cell? ⟨b2, o2 + k * 4 + 1, none⟩ = some (.int .i64 fi) ∧ w'.cell? ⟨b2, o2 + k * 4 + 2, none⟩ = some (.int .i64 fk) ∧ w'.cell? ⟨b2, o2 + k * 4 + 3, none⟩ = some (.slice fa fd.length fc))) (go_keep)
            (first
              | (go_at_call 68; refine hs.mono ?_; rintro r w5 ⟨rfl, hB5'⟩; obtain ⟨⟨⟨n0, n1, n2, n3⟩, m0, m1, m2, m3⟩, hB5⟩ := HK.out w5 ⟨hB5'.os, hB5'.tape, hB5'.output, hB5'.size, hB5'.block⟩; have HB5 : Hid (Below _ _ _) := hB5; clear hB5 hB5')
              | fail)
          go_wp2
          go_ret
          exact ⟨by have := HNO2.out; subst this; rfl, HB5.out⟩
      · have HE : Hid (R = true) := by
          show R = true
          rw [← HR.out, decide_eq_true_eq]
          apply List.ext_getElem
          · simpa using HLL.out
          · intro j h1 h2
            simp at h1 h2
            have := HJ.out j (by omega)
            rw [List.getD_eq_getElem?_getD, List.getD_eq_getElem?_getD, List.getElem?_eq_getElem h1, List.getElem?_eq_getElem h2] at this
            simpa using this
        go_wp2
        go_ret
        exact ⟨by have := HE.out; subst this; rfl, HB.out⟩
  · have hne : ((es.length : Int) != (fs.length : Int)) = true := by simp; omega
    have hd : decide (es.map Ent.says = fs.map Ent.says) = false := by
      rw [decide_eq_false_iff_not]
      intro h
      exact hl (by have := congrArg List.length h; simpa using this)
    rw [hd]
    clear h1 h2 hl hd
    go_enter Try.func17, Try.ntmps17
    go_wp2
    go_ret
    exact ⟨rfl, Below.refl _ _⟩
end Go.Proofs.Yteekpfgjpdopmaa
