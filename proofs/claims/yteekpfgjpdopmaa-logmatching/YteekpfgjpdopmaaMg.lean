/-
  gives: a log is given what another one has behind an index.
-/
import Derived.Test.YteekpfgjpdopmaaMq
import Derived.Test.YteekpfgjpdopmaaTy
namespace Go.Proofs.Yteekpfgjpdopmaa
open Go.RowKit
set_option linter.unusedVariables false

theorem Apt.sta {S : Nat → Prop} {w : World} {va : Option Addr} {vc : Nat} {fs : List Ent} (h : Apt S w (.slice va fs.length vc) fs) : Sta S w va fs := fun w' hO => ⟨w'.heap.size, Nat.le_refl _, (h.keep hO).ow.at⟩

theorem redM (m : Nat) (hm : 1 ≤ m) (hm2 : m ≤ 100000) (r : Int) : ∃ (x : Int) (A : Nat), r.tmod (m : Int) = x ∧ IntKind.i64.wrap (x + (m : Int)) = x + (m : Int) ∧ (x + (m : Int)).tmod (m : Int) = (A : Int) ∧ A < m ∧ -(m : Int) < x ∧ x < (m : Int) := by
  have h1 : -(m : Int) < r.tmod (m : Int) := by
    have h := Int.natAbs_tmod r (m : Int)
    have h' := Nat.mod_lt r.natAbs (y := (m : Int).natAbs) (by omega)
    rw [← h] at h'
    omega
  have h2 : r.tmod (m : Int) < (m : Int) := Int.tmod_lt_of_pos r (by omega)
  have h3 : 0 ≤ (r.tmod (m : Int) + (m : Int)).tmod (m : Int) := Int.tmod_nonneg _ (by omega)
  have h4 : (r.tmod (m : Int) + (m : Int)).tmod (m : Int) < (m : Int) := Int.tmod_lt_of_pos _ (by omega)
  refine ⟨_, ((r.tmod (m : Int) + (m : Int)).tmod (m : Int)).toNat, rfl, ?_, by omega, by omega, h1, h2⟩
  rw [IntKind.wrap_i64]; omega

theorem coP_E (P : PL) (i : Int) : (coP P i).E = P.E := rfl
theorem Zr.li {P : PL} (h : Zr P) : P.li = (P.E.length : Int) := by unfold PL.li; rw [h.bi]; omega
theorem Zr.ix {P : PL} (h : Zr P) : ∀ k, k < P.E.length → eI (P.E.getD k nilEn) = (k : Int) + 1 := fun k hk => by rw [h.ok.ix k hk, h.bi]; omega
/-- Behind a Try of a piece of another log. -/
theorem Zr.try {P : PL} {B : List En} (hz : Zr P) (hM : MtE P.E B) (hI : ∀ k, k < B.length → eI (B.getD k nilEn) = (k : Int) + 1) (n : Nat) (t : Int) (ht : n = 0 ∨ t = eT (B.getD (n - 1) nilEn)) (hn : n ≤ B.length) (F : List En) (hF : F = (B.drop n).take F.length) (ho : (trL P (n : Int) t 0 F).Ok) :
    Zr (trL P (n : Int) t 0 F) ∧ ((trL P (n : Int) t 0 F).E = P.E ∨ ∃ j, (trL P (n : Int) t 0 F).E = B.take j) := by
  cases hy : trY P (n : Int) t F with
  | false =>
    have e : trL P (n : Int) t 0 F = P := by unfold trL; rw [hy]; rfl
    rw [e]
    exact ⟨hz, .inl rfl⟩
  | true =>
    have e : trL P (n : Int) t 0 F = coP (trP P (n : Int) F) (min 0 ((n : Int) + (F.length : Int))) := by unfold trL; rw [hy]; rfl
    have hh : P.has (n : Int) t = true := by
      unfold trY at hy
      simp only [Bool.and_eq_true] at hy
      exact hy.1.1
    have hb : (trP P (n : Int) F).bi = 0 ∧ (trP P (n : Int) F).bt = 0 ∧ (trP P (n : Int) F).c = 0 := by
      unfold trP
      split
      · exact ⟨hz.bi, hz.bt, hz.c⟩
      · exact ⟨hz.bi, hz.bt, hz.c⟩
    refine ⟨⟨ho, ?_, ?_, ?_⟩, ?_⟩
    · rw [e]; exact hb.1
    · rw [e]; exact hb.2.1
    · rw [e]
      show max (trP P (n : Int) F).c (min (min 0 ((n : Int) + (F.length : Int))) (trP P (n : Int) F).li) = 0
      rw [hb.2.2]
      omega
    · rw [e, coP_E]
      rcases try_from hz hM hI n t ht hn F hF with h | h
      · exact .inl h
      · exact .inr (h hh)

set_option maxRecDepth 100000 in
set_option maxHeartbeats 4000000 in
theorem gives_any {N : Nat} {So St : Nat → Prop} {w : World} {bo bt : Nat} {P Q : PL} (hQ : Lg N So w bo Q) (hP : Lg N St w bt P) (hN : N ≤ w.heap.size) (zQ : Zr Q) (zP : Zr P) (hM : MtE P.E Q.E) (n m : Int) :
    Calls Try.prog 38 #[.pointer (some ⟨bo, 0, none⟩), .pointer (some ⟨bt, 0, none⟩), .int .i64 n, .int .i64 m] w fun e w' => e = .returned (.tuple #[]) ∧ ∃ P', LTh N St w w' bt P' ∧ Zr P' ∧ (P'.E = P.E ∨ ∃ j, P'.E = Q.E.take j) := by
  have hlen := zQ.ok.len
  obtain ⟨x, A, a1, a2, a3, hA, a4, a5⟩ := redM (Q.E.length + 1) (by omega) (by omega) n
  obtain ⟨y, B, b1, b2, b3, hB, -, -⟩ := redM 5 (by omega) (by omega) m
  have hli := zQ.li
  have HL : Hid (Calls _ _ _ _ _) := Last_any hQ
  rw [hli] at HL
  have HQ : Hid (∀ w1, Below w.heap.size w w1 → Lg N So w1 bo Q) := fun w1 h => hQ.below h
  have HT : Hid (Q.tt (A : Int) = Q.tm (A : Int)) := by
    show _ = _
    have her : Q.er (A : Int) = 0 := by unfold PL.er; rw [if_neg (by rw [zQ.bi]; omega), if_neg (by rw [hli]; omega)]
    unfold PL.tt
    rw [if_pos her]
  have HTM : Hid (A = 0 ∨ Q.tm (A : Int) = eT (Q.E.getD (A - 1) nilEn)) := by
    show _ ∨ _
    rcases Nat.eq_zero_or_pos A with e | e
    · exact .inl e
    · right
      unfold PL.tm
      rw [if_neg (by rw [zQ.bi]; omega), zQ.bi]
      congr 2
      omega
  have HEN : Hid (enL Q ((A : Int) + 1) (B : Int) = (Q.E.drop A).take (enL Q ((A : Int) + 1) (B : Int)).length ∧ (enL Q ((A : Int) + 1) (B : Int)).length ≤ 10000) := by
    show _ ∧ _
    have he : enE Q ((A : Int) + 1) = 0 := by unfold enE; rw [if_neg (by rw [zQ.bi]; omega), if_neg (by rw [hli]; omega)]
    have : enL Q ((A : Int) + 1) (B : Int) = (Q.E.drop A).take (cnt ((A : Int) + 1 - 1) Q.li (B : Int)) := by
      unfold enL
      rw [if_pos he, zQ.bi]
      congr 2
      omega
    rw [this]
    refine ⟨?_, ?_⟩
    · rw [List.length_take, ← List.take_take, List.take_of_length_le (l := Q.E.drop A) (Nat.le_refl _)]
    · rw [List.length_take, List.length_drop]; omega
  have HTRY : Hid (∀ w4 (va : Option Addr) (vc : Nat) (fs : List Ent), Below w.heap.size w w4 → EntsOw w.heap.size w4 (.slice va fs.length vc) fs → fs.map Ent.says = enL Q ((A : Int) + 1) (B : Int) → fs.length ≤ vc → vc ≤ maxLen → Calls Try.prog 22 #[.pointer (some ⟨bt, 0, none⟩), .int .i64 (A : Int), .int .i64 (Q.tm (A : Int)), .int .i64 0, .slice va fs.length vc] w4 fun e w' => ∃ r, e = .returned r ∧ ∃ P', LTh N St w w' bt P' ∧ Zr P' ∧ (P'.E = P.E ∨ ∃ j, P'.E = Q.E.take j)) := fun w4 va vc fs h4 hO hsy h5 h6 => by
    have hL4 := hP.below h4
    have hapt : Apt St w4 (.slice va fs.length vc) fs := Apt.new hO (fun i hi => hP.inn i hi)
    have hfl : fs.length ≤ 10000 := by have h1 := congrArg List.length hsy; simp at h1; have := HEN.out.2; omega
    refine (Try_any hL4 (Nat.le_trans hN h4.size) (A : Int) (Q.tm (A : Int)) 0 va vc fs hapt.sta (by omega) h5 h6).mono ?_
    rintro e w' ⟨rfl, hT⟩
    rw [hsy] at hT
    have hz := Zr.try zP hM zQ.ix A (Q.tm (A : Int)) HTM.out (by omega) (enL Q ((A : Int) + 1) (B : Int)) HEN.out.1 hT.q.ok
    exact ⟨_, rfl, _, hT.pre hP hN h4, hz.1, hz.2⟩
  have hw1 : IntKind.i64.wrap ((Q.E.length : Int) + 1) = (Q.E.length : Int) + 1 := by rw [IntKind.wrap_i64]; omega
  have a1' : n.tmod ((Q.E.length : Int) + 1) = x := a1
  have a2' : IntKind.i64.wrap (x + (Q.E.length : Int)) = x + (Q.E.length : Int) := by rw [IntKind.wrap_i64]; omega
  have a2'' : IntKind.i64.wrap (x + (Q.E.length : Int) + 1) = x + (Q.E.length : Int) + 1 := by rw [IntKind.wrap_i64]; omega
  have a3' : (x + (Q.E.length : Int) + 1).tmod ((Q.E.length : Int) + 1) = (A : Int) := by rw [Int.add_assoc]; exact a3
  have hnz : ¬ (Q.E.length : Int) + 1 = 0 := by omega
  have hnzb : ((Q.E.length : Int) + 1 == 0) = false := by simp; omega
  have b1' : m.tmod 5 = y := b1
  have b2' : IntKind.i64.wrap (y + 5) = y + 5 := b2
  have b3' : (y + 5).tmod 5 = (B : Int) := b3
  have hwA : IntKind.i64.wrap ((A : Int) + 1) = (A : Int) + 1 := by rw [IntKind.wrap_i64]; omega
  clear a1 a2 a3 b1 b2 b3 hM zP zQ hP hQ a4 a5 hli
  generalize Q.E.length = L at *
  go_enter Try.func38, Try.ntmps38
  go_wp2_with fail
  refine HL.out.mono ?_
  rintro r w1 ⟨rfl, hB1⟩
  have HB1 : Hid (Below w.heap.size w w1) := hB1
  clear hB1
  go_wp2_with fail
  refine (Term_any (HQ.out w1 HB1.out) (A : Int)).mono ?_
  rintro r w2 ⟨rfl, hB2⟩
  rw [HT.out]
  have HB2 : Hid (Below w.heap.size w w2) := HB1.out.trans (hB2.mono HB1.out.size)
  clear hB2
  go_wp2_with fail
  refine (Entries_any (HQ.out w2 HB2.out) ((A : Int) + 1) (B : Int)).mono ?_
  rintro r w3 ⟨v3, fs, rfl, hO3, hsy, hB3⟩
  obtain ⟨va, vc, rfl, h5, h6⟩ := hO3.shape
  have HC : Hid (Calls _ _ _ _ _) := HTRY.out w3 va vc fs (HB2.out.trans (hB3.mono HB2.out.size)) (hO3.base HB2.out.size) hsy h5 h6
  clear hO3 hsy hB3 h5 h6
  go_wp2_with fail
  refine HC.out.mono ?_
  rintro r w4 ⟨r4, rfl, hE⟩
  have HE : Hid _ := hE
  clear hE
  go_wp2
  go_returns
  exact ⟨rfl, HE.out⟩
end Go.Proofs.Yteekpfgjpdopmaa
