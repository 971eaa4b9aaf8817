/-
  LogOrder: what an operation keeps.
-/
import Derived.Test.YteekpfgjpdopmaaAq
import Derived.Test.YteekpfgjpdopmaaTw
import Derived.Test.YteekpfgjpdopmaaHn
import Derived.Test.YteekpfgjpdopmaaRs
import Derived.Test.YteekpfgjpdopmaaCm
import Derived.Test.YteekpfgjpdopmaaHo
import Derived.Test.YteekpfgjpdopmaaNx
namespace Go.Proofs.Yteekpfgjpdopmaa
open Go.RowKit
set_option linter.unusedVariables false

/-- Marks that don't fall; what is committed is there or gone. -/
structure Kp (P P' : PL) : Prop where
  c : P.c ≤ P'.c
  g : P.g ≤ P'.g
  a : P.a ≤ P'.a
  old : ∀ k : Nat, P.bi + (k : Int) < P.c → Hol P' (P.E.getD k nilEn)

theorem Kp.mk' {P : PL} (ok : P.Ok) {h s c g a : Int} (hc : P.c ≤ c) (hg : P.g ≤ g) (ha : P.a ≤ a) : Kp P (P.mk' h s c g a) :=
  ⟨hc, hg, ha, fun k hk => by
    have hkl : k < P.E.length := by have := ok.cl; unfold PL.li at this; omega
    exact .inr ⟨k, hkl, ok.ix k hkl, rfl⟩⟩
theorem Kp.refl {P : PL} (ok : P.Ok) : Kp P P := Kp.mk' ok (Int.le_refl _) (Int.le_refl _) (Int.le_refl _)
theorem Kp.co {P : PL} (ok : P.Ok) (i : Int) : Kp P (coP P i) := Kp.mk' ok (by omega) (Int.le_refl _) (Int.le_refl _)
theorem Kp.ha {P : PL} (ok : P.Ok) : Kp P (haP P) := Kp.mk' ok (Int.le_refl _) (Int.le_refl _) (Int.le_refl _)
theorem Kp.st {P : PL} (ok : P.Ok) (i t : Int) : Kp P (stP P i t) := by
  unfold stP
  split
  · exact Kp.mk' ok (Int.le_refl _) (Int.le_refl _) (Int.le_refl _)
  · exact Kp.refl ok
theorem Kp.nx {P : PL} (ok : P.Ok) (m : Int) : Kp P (nxP P m) := Kp.mk' ok (Int.le_refl _) (by omega) (Int.le_refl _)
theorem Kp.ad {P : PL} (ok : P.Ok) (i : Int) : Kp P (adP P i) := by
  unfold adP
  split
  · exact Kp.mk' ok (Int.le_refl _) (Int.le_refl _) (by omega)
  · exact Kp.refl ok
theorem Kp.front {P P' : PL} (ok : P.Ok) (hb : P'.bi = P.bi) (hc : P.c ≤ P'.c) (hg : P.g ≤ P'.g) (ha : P.a ≤ P'.a) (hE : ∀ k : Nat, P.bi + (k : Int) < P.c → k < P'.E.length ∧ P'.E.getD k nilEn = P.E.getD k nilEn) : Kp P P' :=
  ⟨hc, hg, ha, fun k hk => by
    have hkl : k < P.E.length := by have := ok.cl; unfold PL.li at this; omega
    obtain ⟨h1, h2⟩ := hE k hk
    exact .inr ⟨k, h1, by rw [hb]; exact ok.ix k hkl, h2⟩⟩
theorem Kp.ap {P : PL} (ok : P.Ok) (t k : Int) (d : List UInt8) : Kp P (apL P t k d) := by
  unfold apL
  split
  · refine Kp.front ok rfl (Int.le_refl _) (Int.le_refl _) (Int.le_refl _) (fun j hj => ?_)
    have hkl : j < P.E.length := by have := ok.cl; unfold PL.li at this; omega
    show j < (P.E ++ [_]).length ∧ (P.E ++ [_]).getD j nilEn = _
    refine ⟨by simp; omega, ?_⟩
    simp only [List.getD_eq_getElem?_getD]
    rw [List.getElem?_append_left hkl]
  · exact Kp.refl ok
theorem Kp.tr {P : PL} (ok : P.Ok) (i t c : Int) (E : List En) : Kp P (trL P i t c E) := by
  unfold trL
  split
  · rename_i hY
    unfold trP
    split
    · exact Kp.co ok _
    · rename_i hne
      unfold trY at hY
      simp only [Bool.and_eq_true, beq_iff_eq] at hY
      have hkn := knN_in ok (E := E) hY.1.1 hY.1.2
      have h3 := hY.2
      simp only [Bool.or_eq_true] at h3
      rcases h3 with h3 | h3
      · rw [h3] at hne; simp at hne
      · unfold puY at h3
        simp only [Bool.and_eq_true, decide_eq_true_eq] at h3
        generalize (i - P.bi).toNat + knN P E = k0 at *
        generalize E.drop (knN P E) = F at *
        refine Kp.front ok rfl (by show P.c ≤ max P.c _; omega) (Int.le_refl _) (Int.le_refl _) (fun j hj => ?_)
        have hjk : j < k0 := by have := h3.1; omega
        show j < (P.E.take k0 ++ F).length ∧ (P.E.take k0 ++ F).getD j nilEn = _
        refine ⟨by simp; omega, ?_⟩
        simp only [List.getD_eq_getElem?_getD]
        rw [List.getElem?_append_left (by simp; omega), List.getElem?_take, if_pos hjk]
  · exact Kp.refl ok
theorem Kp.cm {P : PL} (ok : P.Ok) (i : Int) : Kp P (cmP P i) := by
  unfold cmP
  split
  · rename_i he
    have h1 : P.bi ≤ i ∧ i ≤ P.a := by
      unfold cmE at he
      split at he
      · cases he
      · split at he
        · cases he
        · omega
    refine ⟨Int.le_refl _, Int.le_refl _, Int.le_refl _, fun k hk => ?_⟩
    have hkl : k < P.E.length := by have := ok.cl; unfold PL.li at this; omega
    have hix := ok.ix k hkl
    by_cases hki : P.bi + 1 + (k : Int) ≤ i
    · exact .inl (by rw [hix]; exact hki)
    · refine .inr ⟨k - (i - P.bi).toNat, by simp; omega, by rw [hix]; simp only; omega, ?_⟩
      simp only [List.getD_eq_getElem?_getD, List.getElem?_drop]
      congr 2
      omega
  · exact Kp.refl ok
theorem Kp.rs {P : PL} (ok : P.Ok) (i t : Int) : Kp P (rsP P i t) := by
  unfold rsP
  split
  · rename_i he
    unfold rsY at he
    simp only [Bool.and_eq_true, decide_eq_true_eq] at he
    have h1 := he.2
    have h2 := ok.gc
    have h3 := ok.ag
    refine ⟨by show P.c ≤ i; omega, by show P.g ≤ i; omega, by show P.a ≤ i; omega, fun k hk => ?_⟩
    have hkl : k < P.E.length := by have := ok.cl; unfold PL.li at this; omega
    exact .inl (by rw [ok.ix k hkl]; show P.bi + 1 + (k : Int) ≤ i; omega)
  · exact Kp.refl ok

/-- What is committed of a log. -/
theorem old_all {P : PL} (ok : P.Ok) : enL P (P.bi + 1) (P.c - P.bi) = P.E.take (P.c - P.bi).toNat := by
  have h1 := ok.cl
  have h2 : P.bi ≤ P.c := by have := ok.ba; have := ok.ag; have := ok.gc; omega
  unfold enL enE
  have h3 : P.li = P.bi + (P.E.length : Int) := rfl
  rw [if_pos (by rw [if_neg (by omega), if_neg (by omega)])]
  have e1 : (P.bi + 1 - 1 - P.bi).toNat = 0 := by omega
  have e2 : cnt (P.bi + 1 - 1) P.li (P.c - P.bi) = (P.c - P.bi).toNat := by unfold cnt; omega
  rw [e1, e2, List.drop_zero]
theorem Kp.hol {P P' : PL} (ok : P.Ok) (h : Kp P P') {es : List Ent} (hs : es.map Ent.says = P.E.take (P.c - P.bi).toNat) : ∀ e ∈ es, Hol P' e.says := fun e he => by
  have h1 : e.says ∈ P.E.take (P.c - P.bi).toNat := by rw [← hs]; exact List.mem_map.2 ⟨e, he, rfl⟩
  obtain ⟨k, hk, hek⟩ := List.mem_iff_getElem.1 h1
  simp at hk
  have hk2 : k < P.E.length := by omega
  have := h.old k (by omega)
  rw [List.getD_eq_getElem?_getD, List.getElem?_eq_getElem hk2] at this
  rw [← hek]
  simpa using this
/-- What Next tells goes on one by one. -/
theorem nx_get {P : PL} (ok : P.Ok) (m : Int) {k : Nat} (hk : k < (nxE P m).length) : eI ((nxE P m).getD k nilEn) = P.g + 1 + (k : Int) := by
  have h0 : P.bi ≤ P.g := by have := ok.ba; have := ok.ag; omega
  unfold nxE at hk ⊢
  simp at hk
  have e : ((P.E.drop (P.g - P.bi).toNat).take (nxN P m)).getD k nilEn = P.E.getD ((P.g - P.bi).toNat + k) nilEn := by
    simp only [List.getD_eq_getElem?_getD, List.getElem?_take, List.getElem?_drop]
    rw [if_pos (by omega)]
  rw [e, ok.ix _ (by omega)]
  omega
theorem nx_len {P : PL} (ok : P.Ok) (m : Int) : (nxE P m).length = nxN P m := by
  have h0 : P.bi ≤ P.g := by have := ok.ba; have := ok.ag; omega
  have h1 := nxN_le ok m
  have h2 := ok.cl
  unfold nxE
  unfold PL.li at h2
  simp
  omega
/-- Behind an operation. -/
structure Aft (N : Nat) (w : World) (b : Nat) (P P' : PL) (oa : Option Addr) (es : List Ent) (wb z : Nat) (w8 : World) : Prop where
  lg : ∃ S8, Lg N S8 w8 b P'
  at_ : EntsAt w8.heap.size w8 oa es
  was : w8.heap[wb]? = some (.cells #[.int .i64 P.h, .int .i64 P.s, .int .i64 P.c, .int .i64 P.g, .int .i64 P.a] 55 (0, 0))
  bel : Below w.heap.size w w8
  kp : Kp P P'
  sz : z ≤ w8.heap.size
theorem Aft.th {N : Nat} {S : Nat → Prop} {w w7 w8 : World} {b : Nat} {P P' : PL} {oa : Option Addr} {oc : Nat} {es : List Ent} {wb z : Nat} (hN : N ≤ w7.heap.size) (hw : w.heap.size ≤ N) (hA : Apt S w7 (.slice oa es.length oc) es) (hwb : w7.heap[wb]? = some (.cells #[.int .i64 P.h, .int .i64 P.s, .int .i64 P.c, .int .i64 P.g, .int .i64 P.a] 55 (0, 0))) (hS : ¬ S wb) (hB : Below w.heap.size w w7) (hz : z ≤ w7.heap.size) (hT : LTh N S w7 w8 b P') (hk : Kp P P') : Aft N w b P P' oa es wb z w8 :=
  ⟨⟨_, hT.q⟩, ((hA.keep hT.out).ow).at, (hT.out.block wb (Array.getElem?_eq_some_iff.1 hwb).1 hS).trans hwb, hB.trans ((hT.bel hN).mono hw), hk, Nat.le_trans hz hT.out.size⟩
end Go.Proofs.Yteekpfgjpdopmaa
