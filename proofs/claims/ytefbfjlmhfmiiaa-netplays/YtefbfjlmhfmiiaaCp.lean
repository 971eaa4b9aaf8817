/-
  Copy, Spoil.
-/
import Derived.Test.YtefbfjlmhfmiiaaTk
namespace Go.Proofs.Ytefbfjlmhfmiiaa
open Go.RowKit
set_option linter.unusedVariables false

/-- Behind Copy. -/
def PN.copy (P : PN) (i : Int) : PN := if P.at i = true then P.add (mF (P.E.getD i.toNat nilMa)) (mT (P.E.getD i.toNat nilMa)) (mD (P.E.getD i.toNat nilMa)) (mS (P.E.getD i.toNat nilMa)) else P
def PN.cpy (P : PN) (i : Int) : Bool := P.at i && decide (P.E.length < 2000)
theorem getD_memA {E : List Ma} {k : Nat} (h : k < E.length) : E.getD k nilMa ∈ E := by
  rw [List.getD_eq_getElem?_getD, List.getElem?_eq_getElem h]; exact List.getElem_mem h

set_option maxRecDepth 100000 in
set_option maxHeartbeats 4000000 in
/-- Copy. -/
theorem Copy_any {N : Nat} {S : Nat → Prop} {w : World} {b : Nat} {P : PN} (h : Nt N S w b P) (hN : N ≤ w.heap.size) (i : Int) (hk : P.k < 1000000000) :
    Calls Try.prog 20 #[.pointer (some ⟨b, 0, none⟩), .int .i64 i] w fun r w' => r = .returned (.bool (P.cpy i)) ∧ NTh N S w w' b (P.copy i) := by
  have hbw := h.inn _ h.Sb
  have HAT : Hid (Calls _ _ _ _ _) := at_any h i
  unfold PN.cpy PN.copy
  by_cases ha : P.at i = true
  · obtain ⟨i0, i1, i2⟩ := PN.at_of ha
    obtain ⟨k, rfl⟩ : ∃ k : Nat, i = (k : Int) := ⟨i.toNat, i2.symm⟩
    simp only [Int.toNat_natCast] at i1
    clear i2
    obtain ⟨va, vc, es, hm, hl, hvc, hvm, hv1, hv2⟩ := h.cells
    have hkl : k < es.length := by omega
    obtain ⟨e, he⟩ : ∃ e, es.getD k nilMl = e := ⟨_, rfl⟩
    have hmem : e ∈ es := by rw [← he]; exact getD_mem' hkl
    have hat := MlsOw.at (es := es) (by rw [hl]; exact hm.row)
    obtain ⟨g, off, rfl, hg, hcs⟩ := hat.at hkl
    rw [he] at hcs
    have hsy : P.E.getD k nilMa = e.says := by rw [ml_says hm.says k, he]
    have hdl := h.ok.dl _ (getD_memA i1)
    rw [hsy] at hdl
    have HAD : Hid (Calls _ _ _ _ _) := add_any h hN e.n e.f e.t e.a e.d e.c e.s hdl (fun w' hO => ((hm.row.dat e hmem).out hO (by rintro j hj rfl; exact (hm.row.dat e hmem).not_at hm.blk (by decide) hj)).sl (Nat.le_refl _)) hk
    rw [if_pos ha, Int.toNat_natCast, hsy]
    show Calls _ _ _ _ fun r w' => r = .returned (.bool (P.at (k : Int) && decide (P.E.length < 2000))) ∧ NTh N S w w' b (P.add e.f e.t e.d e.s)
    rw [ha] at HAT ⊢
    generalize decide (P.E.length < 2000) = u at *
    obtain ⟨-, -, c65, -⟩ := cell_net hm.blk h.ok.len
    obtain ⟨e0, e1, e2, e3, e4, -⟩ := hcs
    unfold Ml.x at e3
    have j0 : (0 : Int) ≤ (k : Int) := by omega
    have j1 : (k : Int) < (P.E.length : Int) := by omega
    clear h hm hat hl hv1 hv2 hN hkl hmem he ha i0 i1 hvc hvm hsy hdl
    generalize P.E.length = m at *
    go_enter Try.func20, Try.ntmps20
    go_wp2_with fail
    refine HAT.out.mono ?_
    rintro r w1 ⟨rfl, hw⟩
    subst w1
    go_wp2_with fail
    refine HAD.out.mono ?_
    rintro r w1 ⟨rfl, hT⟩
    have HT : Hid (NTh _ _ _ _ _ _) := hT
    clear hT
    go_wp2
    go_ret
    exact ⟨by simp, HT.out⟩
  · have ha' : P.at i = false := by simpa using ha
    rw [if_neg ha]
    have HT : Hid (NTh N S w w b P) := h.th hN (Below.refl _ _)
    rw [ha'] at HAT ⊢
    clear h ha ha'
    go_enter Try.func20, Try.ntmps20
    go_wp2_with fail
    refine HAT.out.mono ?_
    rintro r w1 ⟨rfl, hw⟩
    subst w1
    go_wp2
    go_ret
    exact ⟨by simp, HT.out⟩

/-- A bit of data turned. -/
def flipB (x : UInt8) (n : Nat) : UInt8 := UInt8.ofNat (x.toNat ^^^ 2 ^ n)
def flipD (d : List UInt8) (i : Nat) : List UInt8 := d.set (i / 8) (flipB (d.getD (i / 8) 0) (i % 8))
def PN.spl (P : PN) (i bit : Int) : Bool := P.at i && !mS (P.E.getD i.toNat nilMa) && decide (0 ≤ bit) && decide (bit.toNat / 8 < (mD (P.E.getD i.toNat nilMa)).length)
def spoilM (m : Ma) (bit : Nat) : Ma := (mN m, mF m, mT m, flipD (mD m) bit, true)
def PN.spoil (P : PN) (i bit : Int) : PN := if P.spl i bit = true then { P with E := P.E.set i.toNat (spoilM (P.E.getD i.toNat nilMa) bit.toNat) } else P
theorem flipD_len (d : List UInt8) (i : Nat) : (flipD d i).length = d.length := by simp [flipD]
theorem PN.spoil_ok {P : PN} (h : P.Ok) (i bit : Int) : (P.spoil i bit).Ok := by
  unfold PN.spoil
  split
  · rename_i hs
    have ha : P.at i = true := by simp [PN.spl] at hs; exact hs.1.1.1
    obtain ⟨i0, i1, i2⟩ := PN.at_of ha
    refine ⟨h.n1, h.n7, h.len, h.sym, by simpa using h.row, h.k0, fun e he => ?_⟩
    rcases List.mem_or_eq_of_mem_set he with he | rfl
    · exact h.dl e he
    · show (flipD (mD _) _).length ≤ _
      rw [flipD_len]
      exact h.dl _ (getD_memA i1)
  · exact h

set_option maxRecDepth 100000 in
set_option maxHeartbeats 4000000 in
/-- Spoil, refused. -/
theorem Spoil_no {N : Nat} {S : Nat → Prop} {w : World} {b : Nat} {P : PN} (h : Nt N S w b P) (hN : N ≤ w.heap.size) (i bit : Int) (hb63 : bit ≤ 9223372036854775807) (hs : P.spl i bit = false) :
    Calls Try.prog 21 #[.pointer (some ⟨b, 0, none⟩), .int .i64 i, .int .i64 bit] w fun r w' => r = .returned (.bool false) ∧ NTh N S w w' b (P.spoil i bit) := by
  have hbw := h.inn _ h.Sb
  have HAT : Hid (Calls _ _ _ _ _) := at_any h i
  have HT : Hid (NTh N S w w b (P.spoil i bit)) := by
    show NTh _ _ _ _ _ _
    unfold PN.spoil
    rw [if_neg (by rw [hs]; simp)]
    exact h.th hN (Below.refl _ _)
  by_cases ha : P.at i = true
  · obtain ⟨i0, i1, i2⟩ := PN.at_of ha
    obtain ⟨k, rfl⟩ : ∃ k : Nat, i = (k : Int) := ⟨i.toNat, i2.symm⟩
    simp only [Int.toNat_natCast] at i1
    clear i2
    obtain ⟨va, vc, es, hm, hl, hvc, hvm, hv1, hv2⟩ := h.cells
    have hkl : k < es.length := by omega
    obtain ⟨e, he⟩ : ∃ e, es.getD k nilMl = e := ⟨_, rfl⟩
    have hat := MlsOw.at (es := es) (by rw [hl]; exact hm.row)
    obtain ⟨g, off, rfl, hg, hcs⟩ := hat.at hkl
    rw [he] at hcs
    have hsy : P.E.getD k nilMa = e.says := by rw [ml_says hm.says k, he]
    have hs' : (!e.s && decide (0 ≤ bit) && decide (bit.toNat / 8 < e.d.length)) = false := by
      unfold PN.spl at hs
      rw [ha, Int.toNat_natCast, hsy] at hs
      have e1 : mS e.says = e.s := rfl
      have e2 : mD e.says = e.d := rfl
      rw [e1, e2] at hs
      simpa using hs
    rw [ha] at HAT
    obtain ⟨-, -, c65, -⟩ := cell_net hm.blk h.ok.len
    obtain ⟨e0, e1, e2, e3, e4, -⟩ := hcs
    unfold Ml.x at e3
    have j0 : (0 : Int) ≤ (k : Int) := by omega
    have j1 : (k : Int) < (P.E.length : Int) := by omega
    clear h hm hat hl hv1 hv2 hN hkl he ha i0 i1 hvc hvm hsy hs
    generalize P.E.length = m at *
    cases hes : e.s
    · rw [hes] at e4 hs'
      by_cases hb0 : bit < 0
      · have hb0' : decide (bit < 0) = true := by simpa using hb0
        clear hs'
        go_enter Try.func21, Try.ntmps21
        go_wp2_with fail
        refine HAT.out.mono ?_
        rintro r w1 ⟨rfl, hw⟩
        subst w1
        go_wp2
        go_ret
        exact ⟨rfl, HT.out⟩
      · have hb0' : decide (bit < 0) = false := by simpa using hb0
        obtain ⟨q, rfl⟩ : ∃ q : Nat, bit = (q : Int) := ⟨bit.toNat, by omega⟩
        have hq : e.d.length ≤ q / 8 := by simp at hs'; exact hs'
        have hq' : (e.d.length : Int) ≤ (q : Int) / 8 := by clear hb63; omega
        clear hs' hq
        go_enter Try.func21, Try.ntmps21
        go_wp2_with fail
        refine HAT.out.mono ?_
        rintro r w1 ⟨rfl, hw⟩
        subst w1
        go_wp2
        go_ret
        exact ⟨rfl, HT.out⟩
    · rw [hes] at e4
      clear hs'
      go_enter Try.func21, Try.ntmps21
      go_wp2_with fail
      refine HAT.out.mono ?_
      rintro r w1 ⟨rfl, hw⟩
      subst w1
      go_wp2
      go_ret
      exact ⟨rfl, HT.out⟩
  · have ha' : P.at i = false := by simpa using ha
    rw [ha'] at HAT
    clear h ha ha' hs
    go_enter Try.func21, Try.ntmps21
    go_wp2_with fail
    refine HAT.out.mono ?_
    rintro r w1 ⟨rfl, hw⟩
    subst w1
    go_wp2
    go_ret
    exact ⟨rfl, HT.out⟩

end Go.Proofs.Ytefbfjlmhfmiiaa
