/-
  holds.
-/
import Derived.Test.YteekpfgjpdopmaaSt
import Derived.Test.YteekpfgjpdopmaaEn
namespace Go.Proofs.Yteekpfgjpdopmaa
open Go.RowKit
set_option linter.unusedVariables false

/-- An entry is there, or gone. -/
def Hol (P : PL) (e : En) : Prop := eI e ≤ P.bi ∨ ∃ k : Nat, k < P.E.length ∧ eI e = P.bi + 1 + (k : Int) ∧ P.E.getD k nilEn = e
theorem enL_one {P : PL} (ok : P.Ok) {k : Nat} (hk : k < P.E.length) : enE P (P.bi + 1 + (k : Int)) = 0 ∧ enL P (P.bi + 1 + (k : Int)) 1 = [P.E.getD k nilEn] := by
  have e0 : enE P (P.bi + 1 + (k : Int)) = 0 := by unfold enE PL.li; rw [if_neg (by omega), if_neg (by omega)]
  refine ⟨e0, ?_⟩
  unfold enL
  rw [if_pos e0]
  have e1 : (P.bi + 1 + (k : Int) - 1 - P.bi).toNat = k := by omega
  have e2 : cnt (P.bi + 1 + (k : Int) - 1) P.li 1 = 1 := by unfold cnt PL.li; omega
  rw [e1, e2, List.drop_eq_getElem_cons hk, List.getD_eq_getElem?_getD, List.getElem?_eq_getElem hk]
  rfl

set_option maxRecDepth 100000 in
set_option maxHeartbeats 4000000 in
theorem holds_any {N : Nat} {S : Nat → Prop} {w : World} {b : Nat} {P : PL} (h : Lg N S w b P) (oa : Option Addr) (oc : Nat) (es : List Ent) (M : Nat) (hE : EntsAt M w oa es) (hM : M ≤ w.heap.size) (hH : ∀ e ∈ es, Hol P e.says) (hl : es.length ≤ 100000) :
    Calls Try.prog 37 #[.pointer (some ⟨b, 0, none⟩), .slice oa es.length oc] w fun e w' => e = .returned (.bool true) ∧ Below w.heap.size w w' := by
  have HL : Hid (Lg N S w b P) := h
  have HE : Hid (EntsAt M w oa es) := hE
  have HH : Hid (∀ e ∈ es, Hol P e.says) := hH
  clear h hE hH
  go_enter Try.func37, Try.ntmps37
  go_wp2_with fail
  refine (Base_any HL.out).mono ?_
  rintro r w1 ⟨rfl, hB1⟩
  have HB1 : Hid (Below w.heap.size w w1) := hB1
  clear hB1
  go_wp2_with fail
  go_loopw [7] (fun iv wr => ∃ (k : Nat), iv = .int .i64 (k : Int) ∧ k ≤ es.length ∧ Below w.heap.size w wr) (fun iv _ => es.length - (intOf iv).toNat)
  case atStart => exact ⟨0, rfl, Nat.zero_le _, HB1.out⟩
  case round =>
    obtain ⟨k, rfl, hk, hB⟩ := hrel
    have HB : Hid (Below w.heap.size w wr) := hB
    clear hB HB1
    by_cases hlt : k < es.length
    · obtain ⟨g, off, hoa, hgM, he⟩ := HE.out.at hlt
      subst hoa
      have he' := he.below hgM (HB.out.mono hM)
      have hho := HH.out _ (show es.getD k nilEnt ∈ es by rw [List.getD_eq_getElem?_getD, List.getElem?_eq_getElem hlt]; exact List.getElem_mem hlt)
      have HNX : Hid (∀ wn : World, Below w.heap.size w wn → (∃ k' : Nat, Value.int .i64 ((k : Int) + 1) = .int .i64 (k' : Int) ∧ k' ≤ es.length ∧ Below w.heap.size w wn) ∧ es.length - (intOf (Value.int .i64 ((k : Int) + 1))).toNat < es.length - (intOf (Value.int .i64 (k : Int))).toNat) := fun wn h2 => ⟨⟨k + 1, by simp, by omega, h2⟩, by simp [intOf]; omega⟩
      generalize es.getD k nilEnt = e at *
      obtain ⟨et, ei, ek, eaa, ecc, ed⟩ := e
      obtain ⟨c0, c1, c2, c3, c4⟩ := he'
      unfold Ent.x at c3 c4
      simp only at c0 c1 c2 c3 c4
      have hgw : g < wr.heap.size := by have := HB.out.size; omega
      have i0 : (0 : Int) ≤ (k : Int) := by omega
      have i1 : (k : Int) < (es.length : Int) := by omega
      rcases hho with hle | ⟨j, hj, hij, hgj⟩
      · have hle' : ei ≤ P.bi := hle
        clear hle he c4
        go_wp2_with fail
        exact HNX.out wr HB.out
      · have hij' : ei = P.bi + 1 + (j : Int) := hij
        subst hij'
        have hgt : P.bi < P.bi + 1 + (j : Int) := by omega
        obtain ⟨o1, o2⟩ := enL_one HL.out.ok hj
        have hEN := Entries_any (HL.out.below HB.out) (P.bi + 1 + (j : Int)) 1
        rw [o1, o2] at hEN
        have HEN : Hid (Calls _ _ _ _ _) := hEN
        have HGJ : Hid (P.E.getD j nilEn = Ent.says ⟨et, P.bi + 1 + (j : Int), ek, eaa, ecc, ed⟩) := hgj
        have HC4 : Hid (Sl M wr (.slice eaa ed.length ecc) ed) := c4
        have hij0 : 0 ≤ P.bi := HL.out.ok.b0.1
        clear hij he hEN c4 hgj o1 o2
        go_wp2_with fail
        refine HEN.out.mono ?_
        rintro r w5 ⟨v5, f5, rfl, hO5, hsy5, hB5⟩
        obtain ⟨f, rfl⟩ : ∃ f, f5 = [f] := by
          have := congrArg List.length hsy5
          simp at this
          exact List.length_eq_one_iff.1 this
        obtain ⟨a5, c5, rfl, -, -⟩ := hO5.shape
        obtain ⟨g5, off5, rfl, hg5, hat⟩ := (hO5.at).at (i := 0) (by simp)
        have hfs : f.says = Ent.says ⟨et, P.bi + 1 + (j : Int), ek, eaa, ecc, ed⟩ := by rw [← HGJ.out]; simpa using hsy5
        have HFS : Hid (f.says = Ent.says ⟨et, P.bi + 1 + (j : Int), ek, eaa, ecc, ed⟩) := hfs
        simp only [Nat.zero_mul, Nat.add_zero, List.getD_cons_zero] at hat
        obtain ⟨ft, fi, fk, faa, fcc, fd⟩ := f
        obtain ⟨d0, d1, d2, d3, d4⟩ := hat
        unfold Ent.x at d3 d4
        simp only at d0 d1 d2 d3 d4
        have HB5 : Hid (Below w.heap.size w w5) := HB.out.trans (hB5.mono HB.out.size)
        have hgw5 : g < w5.heap.size := Nat.lt_of_lt_of_le hgw hB5.size
        have y0 := (hB5.cell (p := ⟨g, off + k * 4, none⟩) hgw).trans c0
        have y1 := (hB5.cell (p := ⟨g, off + k * 4 + 1, none⟩) hgw).trans c1
        have y2 := (hB5.cell (p := ⟨g, off + k * 4 + 2, none⟩) hgw).trans c2
        have y3 := (hB5.cell (p := ⟨g, off + k * 4 + 3, none⟩) hgw).trans c3
        have HSE : Hid (∀ X : World, Below w5.heap.size w5 X → Calls Try.prog 68 #[.agg #[.int .i64 ft, .int .i64 fi, .int .i64 fk, .slice faa fd.length fcc], .agg #[.int .i64 et, .int .i64 (P.bi + 1 + (j : Int)), .int .i64 ek, .slice eaa ed.length ecc]] X fun r w' => r = .returned (.bool true) ∧ Below X.heap.size X w') := fun X hX => by
          have := sameEntry_any ⟨ft, fi, fk, faa, fcc, fd⟩ ⟨et, P.bi + 1 + (j : Int), ek, eaa, ecc, ed⟩ X.heap.size X ((d4.below hX).mono hX.size) ((HC4.out.below ((hB5.mono (Nat.le_trans hM HB.out.size)).trans (hX.mono (Nat.le_trans hM HB5.out.size)))).mono (Nat.le_trans hM (Nat.le_trans HB5.out.size hX.size))) (Nat.le_refl _)
          rw [decide_eq_true HFS.out] at this
          exact this
        clear hO5 hsy5 hB5 d4 c0 c1 c2 c3 hfs HEN
        have hwd : Below w5.heap.size w5 w5.drew := (Below.refl _ _).drew
        go_wp2_with (go_at_call 13; refine (num_any _ _).mono ?_; rintro r w' ⟨rfl, hw⟩; subst w')
        have HQ : Hid (∀ X, Below w5.heap.size w5 X → (X.cell? ⟨g5, off5, none⟩ = some (.int .i64 ft) ∧ X.cell? ⟨g5, off5 + 1, none⟩ = some (.int .i64 fi) ∧ X.cell? ⟨g5, off5 + 2, none⟩ = some (.int .i64 fk) ∧ X.cell? ⟨g5, off5 + 3, none⟩ = some (.slice faa fd.length fcc)) ∧ X.cell? ⟨g, off + k * 4, none⟩ = some (.int .i64 et) ∧ X.cell? ⟨g, off + k * 4 + 1, none⟩ = some (.int .i64 (P.bi + 1 + (j : Int))) ∧ X.cell? ⟨g, off + k * 4 + 2, none⟩ = some (.int .i64 ek) ∧ X.cell? ⟨g, off + k * 4 + 3, none⟩ = some (.slice eaa ed.length ecc)) := fun X hX =>
          ⟨⟨(hX.cell (p := ⟨g5, off5, none⟩) hg5).trans d0, (hX.cell (p := ⟨g5, off5 + 1, none⟩) hg5).trans d1, (hX.cell (p := ⟨g5, off5 + 2, none⟩) hg5).trans d2, (hX.cell (p := ⟨g5, off5 + 3, none⟩) hg5).trans d3⟩, (hX.cell (p := ⟨g, off + k * 4, none⟩) hgw5).trans y0, (hX.cell (p := ⟨g, off + k * 4 + 1, none⟩) hgw5).trans y1, (hX.cell (p := ⟨g, off + k * 4 + 2, none⟩) hgw5).trans y2, (hX.cell (p := ⟨g, off + k * 4 + 3, none⟩) hgw5).trans y3⟩
        go_region_held3 (fun w' => (w'.cell? ⟨g5, off5, none⟩ = some (.int .i64 ft) ∧ w'.cell? ⟨g5, off5 + 1, none⟩ = some (.int .i64 fi) ∧ w'.cell? ⟨g5, off5 + 2, none⟩ = some (.int .i64 fk) ∧ w'.cell? ⟨g5, off5 + 3, none⟩ = some (.slice faa fd.length fcc)) ∧ w'.cell? ⟨g, off + k * 4, none⟩ = some (.int .i64 et) ∧ w'.cell? ⟨g, off + k * 4 + 1, none⟩ = some (.int .i64 (P.bi + 1 + (j : Int))) ∧ w'.cell? ⟨g, off + k * 4 + 2, none⟩ = some (.int .i64 ek) ∧ w'.cell? ⟨g, off + k * 4 + 3, none⟩ = some (.slice eaa ed.length ecc)) (go_keep)
          (first
            | (go_at_call 68; refine (HSE.out _ hwd).mono ?_; rintro r w6 ⟨rfl, hB6'⟩; have hB6 : Below w5.heap.size w5 w6 := hwd.trans (hB6'.mono hwd.size); obtain ⟨⟨p0, p1, p2, p3⟩, r0, r1, r2, r3⟩ := HQ.out w6 hB6; have HB6 : Hid (Below w.heap.size w w6) := HB5.out.trans (hB6.mono HB5.out.size); clear hB6' hB6)
            | fail)
        go_wp2
        exact HNX.out w6 HB6.out
    · go_wp2
      go_ret
      exact ⟨rfl, HB.out⟩
end Go.Proofs.Yteekpfgjpdopmaa
