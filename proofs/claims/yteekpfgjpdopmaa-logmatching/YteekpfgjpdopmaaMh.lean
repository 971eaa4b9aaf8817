/-
  matching: two logs have the same entries up to the last index that has one term in both.
-/
import Derived.Test.YteekpfgjpdopmaaMg
namespace Go.Proofs.Yteekpfgjpdopmaa
open Go.RowKit
set_option linter.unusedVariables false

theorem enL_front {P : PL} (z : Zr P) {k : Nat} (hk : k ≤ P.E.length) : enL P 1 (k : Int) = P.E.take k := by
  have he : enE P 1 = 0 := by unfold enE PL.li; rw [if_neg (by rw [z.bi]; omega), if_neg (by rw [z.bi]; omega)]
  unfold enL
  rw [if_pos he, z.bi]
  have e1 : ((1 : Int) - 1 - 0).toNat = 0 := by omega
  have e2 : cnt (1 - 1) P.li (k : Int) = k := by unfold cnt; rw [z.li]; omega
  rw [e1, e2, List.drop_zero]

/-- Where the second has the first one's term of an index, they are the same up to it. -/
theorem has_upto {P Q : PL} (zP : Zr P) (zQ : Zr Q) (hM : MtE P.E Q.E) {k : Nat} (h1 : 1 ≤ k) (hP : k ≤ P.E.length) (hQ : k ≤ Q.E.length) (hh : Q.has (k : Int) (P.tt (k : Int)) = true) : P.E.take k = Q.E.take k := by
  refine hM.upto hP hQ (.inr ?_)
  obtain ⟨-, -, h3⟩ := has_zr zQ hh
  rcases h3 with h3 | h3
  · omega
  · rw [show ((k : Int)).toNat - 1 = k - 1 by omega] at h3
    rw [h3]
    have her : P.er (k : Int) = 0 := by unfold PL.er; rw [if_neg (by rw [zP.bi]; omega), if_neg (by rw [zP.li]; omega)]
    unfold PL.tt
    rw [if_pos her]
    unfold PL.tm
    rw [if_neg (by rw [zP.bi]; omega), zP.bi]
    congr 2
    omega

set_option maxRecDepth 100000 in
set_option maxHeartbeats 4000000 in
theorem matching_any {N : Nat} {Sa Sb : Nat → Prop} {w : World} {ba bb : Nat} {P Q : PL} (hP : Lg N Sa w ba P) (hQ : Lg N Sb w bb Q) (zP : Zr P) (zQ : Zr Q) (hM : MtE P.E Q.E) :
    Calls Try.prog 39 #[.pointer (some ⟨ba, 0, none⟩), .pointer (some ⟨bb, 0, none⟩)] w fun e w' => e = .returned (.bool true) ∧ Below w.heap.size w w' := by
  have HP : Hid (∀ w1, Below w.heap.size w w1 → Lg N Sa w1 ba P) := fun w1 h => hP.below h
  have HQ : Hid (∀ w1, Below w.heap.size w w1 → Lg N Sb w1 bb Q) := fun w1 h => hQ.below h
  have HU : Hid (∀ k : Nat, 1 ≤ k → k ≤ P.E.length → k ≤ Q.E.length → Q.has (k : Int) (P.tt (k : Int)) = true → P.E.take k = Q.E.take k) := fun k h1 h2 h3 h4 => has_upto zP zQ hM h1 h2 h3 h4
  have HE : Hid (∀ k : Nat, k ≤ P.E.length → k ≤ Q.E.length → enL P 1 (k : Int) = P.E.take k ∧ enL Q 1 (k : Int) = Q.E.take k) := fun k h1 h2 => ⟨enL_front zP h1, enL_front zQ h2⟩
  have hl1 := zP.ok.len
  have hl2 := zQ.ok.len
  have HLP : Hid (Calls _ _ _ _ _) := Last_any hP
  rw [zP.li] at HLP
  have zl := zQ.li
  have HTL : Hid (∀ (k : Nat) (wr : World), Below w.heap.size w wr → k ≤ P.E.length → k ≤ Q.E.length → P.E.take k = Q.E.take k → Calls Try.prog 27 #[.pointer (some ⟨ba, 0, none⟩), .int .i64 1, .int .i64 (k : Int)] wr fun e w4 => ∃ va vc fs, e = .returned (.tuple #[.slice va fs vc, .int .i64 (enE P 1 : Int)]) ∧ Below w.heap.size w w4 ∧ Calls Try.prog 27 #[.pointer (some ⟨bb, 0, none⟩), .int .i64 1, .int .i64 (k : Int)] w4 fun e w5 => ∃ vb vd gs, e = .returned (.tuple #[.slice vb gs vd, .int .i64 (enE Q 1 : Int)]) ∧ Below w.heap.size w w5 ∧ Calls Try.prog 17 #[.slice va fs vc, .slice vb gs vd] w5 fun e w6 => e = .returned (.bool true) ∧ Below w.heap.size w w6) := fun k wr hB h1 h2 h3 => by
    obtain ⟨e1, e2⟩ := HE.out k h1 h2
    refine (Entries_any (HP.out wr hB) 1 (k : Int)).mono ?_
    rintro r w4 ⟨v4, fs, rfl, hO4, hsy4, hB4⟩
    obtain ⟨va, vc, rfl, -, -⟩ := hO4.shape
    have hB4' : Below w.heap.size w w4 := hB.trans (hB4.mono hB.size)
    refine ⟨va, vc, fs.length, rfl, hB4', ?_⟩
    refine (Entries_any (HQ.out w4 hB4') 1 (k : Int)).mono ?_
    rintro r w5 ⟨v5, gs, rfl, hO5, hsy5, hB5⟩
    obtain ⟨vb, vd, rfl, -, -⟩ := hO5.shape
    have hB5' : Below w.heap.size w w5 := hB4'.trans (hB5.mono hB4'.size)
    refine ⟨vb, vd, gs.length, rfl, hB5', ?_⟩
    have hfl : fs.length ≤ 1000000 := by
      have := congrArg List.length hsy4
      rw [e1] at this
      simp at this
      omega
    have hsame := sameEntries_any va vb vc vd fs gs w5.heap.size w5 (hO4.below hB5).at hO5.at (Nat.le_refl _) (by omega)
    rw [decide_eq_true (by rw [hsy4, hsy5, e1, e2, h3])] at hsame
    exact hsame.mono (fun e w6 h => ⟨h.1, hB5'.trans (h.2.mono hB5'.size)⟩)
  have HLQ : Hid (∀ w1, Below w.heap.size w w1 → Calls Try.prog 24 #[.pointer (some ⟨bb, 0, none⟩)] w1 fun e w' => e = .returned (.tuple #[.int .i64 (Q.E.length : Int), .int .i64 Q.lt]) ∧ Below w1.heap.size w1 w') := fun w1 h => by
    have := Last_any (HQ.out w1 h)
    rw [zl] at this
    exact this
  have HTE : Hid (P.E.take 0 = Q.E.take 0) := by show _ = _; simp
  clear hP hQ zP zQ hM zl HE
  generalize hpl : P.E.length = lp at *
  generalize hql : Q.E.length = lq at *
  go_enter Try.func39, Try.ntmps39
  go_wp2_with fail
  refine HLP.out.mono ?_
  rintro r w1 ⟨rfl, hB1⟩
  have HB1 : Hid (Below w.heap.size w w1) := hB1
  clear hB1 HLP
  go_wp2_with fail
  refine (HLQ.out w1 HB1.out).mono ?_
  rintro r w2 ⟨rfl, hB2⟩
  have HB2 : Hid (Below w.heap.size w w2) := HB1.out.trans (hB2.mono HB1.out.size)
  clear hB2 HB1 HLQ
  go_wp2_with fail
  all_goals
    go_loopw [9] (fun kv wr => ∃ k : Nat, kv = .int .i64 (k : Int) ∧ k ≤ lp ∧ k ≤ lq ∧ Below w.heap.size w wr) (fun kv _ => (intOf kv).toNat)
    case atStart => exact ⟨_, rfl, by omega, by omega, HB2.out⟩
    case round =>
      obtain ⟨k, rfl, hk, hk2, hB⟩ := hrel
      have HB : Hid (Below w.heap.size w wr) := hB
      clear hB HB2
      by_cases hz : k = 0
      · subst hz
        have HC : Hid (Calls _ _ _ _ _) := HTL.out 0 wr HB.out (by omega) (by omega) HTE.out
        clear HTL HU
        go_wp2_with fail
        refine HC.out.mono ?_
        rintro r w4 ⟨va, vc, fs, rfl, hB4, hC4⟩
        have HC4 : Hid (Calls _ _ _ _ _) := hC4
        clear hB4 hC4 HC
        go_wp2_with fail
        refine HC4.out.mono ?_
        rintro r w5 ⟨vb, vd, gs, rfl, hB5, hC5⟩
        have HC5 : Hid (Calls _ _ _ _ _) := hC5
        clear hB5 hC5 HC4
        go_wp2_with fail
        refine HC5.out.mono ?_
        rintro r w6 ⟨rfl, hB6⟩
        have HB6 : Hid (Below w.heap.size w w6) := hB6
        clear hB6
        go_wp2
        go_ret
        exact ⟨rfl, HB6.out⟩
      · obtain ⟨j, rfl⟩ : ∃ j, k = j + 1 := ⟨k - 1, by omega⟩
        clear hz
        have hgt : (0 : Int) < ((j + 1 : Nat) : Int) := by omega
        go_wp2_with fail
        refine (Term_any (HP.out wr HB.out) ((j + 1 : Nat) : Int)).mono ?_
        rintro r w3 ⟨rfl, hB3⟩
        have HB3 : Hid (Below w.heap.size w w3) := HB.out.trans (hB3.mono HB.out.size)
        clear hB3
        have HUK := HU.out (j + 1) (by omega) (by omega) (by omega)
        have HUK2 : Hid (Q.has ((j + 1 : Nat) : Int) (P.tt ((j + 1 : Nat) : Int)) = true → P.E.take (j + 1) = Q.E.take (j + 1)) := HUK
        clear HUK
        have HHAS : Hid (Calls _ _ _ _ _) := Has_any (HQ.out w3 HB3.out) ((j + 1 : Nat) : Int) (P.tt ((j + 1 : Nat) : Int))
        cases hb : Q.has ((j + 1 : Nat) : Int) (P.tt ((j + 1 : Nat) : Int)) with
        | false =>
          rw [hb] at HHAS
          have hsub : IntKind.i64.wrap (((j + 1 : Nat) : Int) - 1) = (j : Int) := by rw [IntKind.wrap_i64]; omega
          have HS : Hid (IntKind.i64.wrap (((j + 1 : Nat) : Int) - 1) = (j : Int)) := hsub
          clear hb HUK2 HTL HU
          go_wp2_with fail
          refine HHAS.out.mono ?_
          rintro r w4 ⟨rfl, hB4⟩
          have HB4 : Hid (Below w.heap.size w w4) := HB3.out.trans (hB4.mono HB3.out.size)
          clear hB4 HHAS
          go_wp2
          go_roundw
          case rel => exact ⟨j, by simp, by omega, by omega, HB4.out⟩
          case measure => simp [intOf]
        | true =>
          rw [hb] at HHAS
          have HEQ : Hid (P.E.take (j + 1) = Q.E.take (j + 1)) := HUK2.out hb
          clear hb HUK2 HU
          go_wp2_with fail
          refine HHAS.out.mono ?_
          rintro r w3' ⟨rfl, hB3'⟩
          have HB3' : Hid (Below w.heap.size w w3') := HB3.out.trans (hB3'.mono HB3.out.size)
          have HC : Hid (Calls _ _ _ _ _) := HTL.out (j + 1) w3' HB3'.out (by omega) (by omega) HEQ.out
          clear hB3' HHAS HTL
          go_wp2_with fail
          refine HC.out.mono ?_
          rintro r w4 ⟨va, vc, fs, rfl, hB4, hC4⟩
          have HC4 : Hid (Calls _ _ _ _ _) := hC4
          clear hB4 hC4 HC
          go_wp2_with fail
          refine HC4.out.mono ?_
          rintro r w5 ⟨vb, vd, gs, rfl, hB5, hC5⟩
          have HC5 : Hid (Calls _ _ _ _ _) := hC5
          clear hB5 hC5 HC4
          go_wp2_with fail
          refine HC5.out.mono ?_
          rintro r w6 ⟨rfl, hB6⟩
          have HB6 : Hid (Below w.heap.size w w6) := hB6
          clear hB6
          go_wp2
          go_ret
          exact ⟨rfl, HB6.out⟩
end Go.Proofs.Yteekpfgjpdopmaa
