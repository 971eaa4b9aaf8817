/-
  LogTwice: the walk.
-/
import Derived.Test.YteekpfgjpdopmabTw
import Derived.Test.YteekpfgjpdopmabRb
import Derived.Test.YteekpfgjpdopmabFw
import Derived.Test.YteekpfgjpdopmabBl
namespace Go.Proofs.Yteekpfgjpdopmab
open Go.RowKit
set_option linter.unusedVariables false

theorem opsOne (w : World) (ea : Option Addr) (ec : Nat) (es : List Ent) (N : Nat) (hE : EntsAt N w ea es) (hN : N ≤ w.heap.size) (h1 : es.length ≤ ec) (h2 : ec ≤ maxLen) :
    OpsAt (w.heap.size + 1) (w.alloc (.cells #[.int .i64 0, .int .i64 0, .int .i64 0, .int .i64 0, .slice ea es.length ec, .slice none 0 0] 29)) (some ⟨w.heap.size, 0, none⟩) [⟨0, 0, 0, 0, ea, ec, es, none, 0, []⟩] := by
  refine .inr ⟨_, _, rfl, by omega, fun i hi => ?_⟩
  have hh : (w.alloc (.cells #[.int .i64 0, .int .i64 0, .int .i64 0, .int .i64 0, .slice ea es.length ec, .slice none 0 0] 29)).heap[w.heap.size]? = some (.cells #[.int .i64 0, .int .i64 0, .int .i64 0, .int .i64 0, .slice ea es.length ec, .slice none 0 0] 29) := heap_alloc_new w _
  have : i = 0 := by simpa using hi
  subst this
  refine ⟨⟨?_, ?_, ?_, ?_, ?_, ?_⟩, (hE.below ((Below.refl _ w).alloc hN _)).mono (by omega), Sl.nil _ _, h1, h2⟩
  all_goals (simp only [World.cell?, hh]; rfl)

/-- Lists of entries that lie apart from what turns. -/
theorem EntsOw.past {N : Nat} {S : Nat → Prop} {w w' : World} {v : Value} {es : List Ent} (h : EntsOw N w v es) (hO : Out S w w') (hS : ∀ i, S i → i < N) : EntsOw N w' v es :=
  h.out hO (fun g hg hs => by have := hS g hs; have := (h.lt hg).1; omega) (fun e he g hg hs => by have := hS g hs; have := ((h.dat e he).lt hg).1; omega)

theorem enL_len (P : PL) (h : P.Ok) (i m : Int) : (enL P i m).length ≤ 10000 := by
  have := h.len
  unfold enL
  split
  · simp; omega
  · simp

set_option maxRecDepth 100000 in
set_option maxHeartbeats 8000000 in
theorem twice_walk (N : Nat) (va : Value) (la : List Int) (i t c : Int) (ea : Option Addr) (ec : Nat) (es : List Ent) (w : World) (ha : ISl N w va la) (hE : EntsAt N w ea es) (hN : N ≤ w.heap.size) (hec : es.length ≤ ec) (hem : ec ≤ maxLen) :
    Calls Try.prog 3 #[va, .int .i64 i, .int .i64 t, .int .i64 c, .slice ea es.length ec] w fun e w' => e = .returned (.bool true) ∧ Below w.heap.size w w' := by
  obtain ⟨aa, ca, rfl, -⟩ := id ha
  have hf := first_any w
  by_cases h1 : 200 < la.length
  · have h1' : (200 : Int) < (la.length : Int) := by omega
    clear ha hE hec
    go_enter Try.func3, Try.ntmps3
    go_wp2_with (go_at_call 6; refine hf.mono ?_; rintro e w1 ⟨rfl, hB1⟩)
    go_ret
    exact ⟨rfl, hB1⟩
  have h1' : (la.length : Int) ≤ 200 := by omega
  by_cases h2 : 64 < es.length
  · have h2' : (64 : Int) < (es.length : Int) := by omega
    clear ha hE hec
    go_enter Try.func3, Try.ntmps3
    go_wp2_with (go_at_call 6; refine hf.mono ?_; rintro e w1 ⟨rfl, hB1⟩)
    go_ret
    exact ⟨rfl, hB1⟩
  have h2' : (es.length : Int) ≤ 64 := by omega
  have HA : Hid (ISl N w (.slice aa la.length ca) la) := ha
  have HE : Hid (EntsAt N w ea es) := hE
  have HEC : Hid (es.length ≤ ec ∧ ec ≤ maxLen) := ⟨hec, hem⟩
  have hz : es.length ≤ 1000000 := by omega
  have hla : la.length ≤ 1000 := by omega
  obtain ⟨mb, hmb⟩ : ∃ mb, mayB i t es = mb := ⟨_, rfl⟩
  have HMB : Hid (mayB i t es = mb) := hmb
  obtain ⟨P, hP⟩ : ∃ P, blt P0 (risF 1 la) = P := ⟨_, rfl⟩
  have HP : Hid (blt P0 (risF 1 la) = P) := hP
  have HRL : Hid ((risF 1 la).length ≤ 1000) := by show _ ≤ _; rw [risF_length]; exact hla
  clear ha hE hec hem h1 h2 hmb hP
  go_enter Try.func3, Try.ntmps3
  go_wp2_with fail
  refine hf.mono ?_
  rintro e w1 ⟨rfl, hB1⟩
  have HB1 : Hid (Below w.heap.size w w1) := hB1
  clear hB1 hf
  go_wp2_with fail
  refine (may_any i t ea ec es N w1 (HE.out.below (HB1.out.mono hN)) (Nat.le_trans hN HB1.out.size) hz).mono ?_
  rintro e w2 ⟨rfl, hB2⟩
  rw [HMB.out]
  have HB2 : Hid (Below w.heap.size w w2) := HB1.out.trans (hB2.mono HB1.out.size)
  clear hB2 HB1 HMB
  cases mb with
  | false =>
    go_wp2
    go_ret
    exact ⟨rfl, HB2.out⟩
  | true =>
  go_wp2_with fail
  have hE2 := HE.out.below (HB2.out.mono hN)
  have hops := opsOne w2 ea ec es N hE2 (Nat.le_trans hN HB2.out.size) HEC.out.1 HEC.out.2
  obtain ⟨W3, hW3⟩ : ∃ W3, w2.alloc (.cells #[.int .i64 0, .int .i64 0, .int .i64 0, .int .i64 0, .slice ea es.length ec, .slice none 0 0] 29) = W3 := ⟨_, rfl⟩
  have HB3 : Hid (Below w.heap.size w W3) := by show Below _ _ _; rw [← hW3]; exact HB2.out.alloc HB2.out.size _
  have hz3 : w2.heap.size + 1 ≤ W3.heap.size := by rw [← hW3]; simp
  rw [hW3] at hops ⊢
  refine (few_any _ 1 _ _ W3 hops hz3 (by simp)).mono ?_
  rintro e w' ⟨sm, rfl, -, hw⟩
  subst w'
  clear hops hW3 hz3 hE2 HB2
  go_wp2_with fail
  refine (rising_any N _ la W3 (HA.out.below (HB3.out.mono hN)) (Nat.le_trans hN HB3.out.size) hla).mono ?_
  rintro e w4 ⟨v4, rfl, hO4, hB4⟩
  have HB4 : Hid (Below w.heap.size w w4) := HB3.out.trans (hB4.mono HB3.out.size)
  obtain ⟨a4, c4, rfl, -, -⟩ := hO4.shape
  have HO4 : Hid (ISl w4.heap.size w4 (.slice a4 (risF 1 la).length c4) (risF 1 la)) := hO4.sl (Nat.le_refl _)
  clear hO4 hB4 HB3 HA
  go_wp2_with fail
  refine (built_any w4.heap.size _ (risF 1 la) w4 HO4.out (Nat.le_refl _) HRL.out).mono ?_
  rintro e w5 ⟨b, S, rfl, hL, hB5⟩
  rw [HP.out] at hL
  have HL5 : Hid (Lg w4.heap.size S w5 b P) := hL
  have HB5 : Hid (Below w.heap.size w w5) := HB4.out.trans (hB5.mono HB4.out.size)
  have HZ5 : Hid (w4.heap.size ≤ w5.heap.size) := hB5.size
  have HN4 : Hid (N ≤ w4.heap.size) := Nat.le_trans hN HB4.out.size
  have HW4 : Hid (w.heap.size ≤ w4.heap.size) := HB4.out.size
  have HOK : Hid (P.Ok) := hL.ok
  clear hL hB5 HB4 HO4 HP HRL
  cases sm with
  | false =>
    go_wp2
    go_ret
    exact ⟨rfl, HB5.out⟩
  | true =>
  go_wp2_with fail
  refine (Entries_any HL5.out 1 10000).mono ?_
  rintro e w6 ⟨v6, f6, rfl, hO6, hsy6, hB6⟩
  obtain ⟨a6, c6, rfl, -, -⟩ := hO6.shape
  have HO6 : Hid (EntsOw w5.heap.size w6 (.slice a6 f6.length c6) f6) := hO6
  have HSY6 : Hid (f6.map Ent.says = enL P 1 10000) := hsy6
  have HL6 : Hid (Lg w4.heap.size S w6 b P) := HL5.out.below hB6
  have HB6 : Hid (Below w.heap.size w w6) := HB5.out.trans (hB6.mono HB5.out.size)
  have HZ6 : Hid (w5.heap.size ≤ w6.heap.size) := hB6.size
  have HS5 : Hid (∀ j, S j → j < w5.heap.size) := HL5.out.inn
  have HS4 : Hid (∀ j, S j → w4.heap.size ≤ j) := HL5.out.fr
  clear hO6 hsy6 hB6 HL5
  go_wp2_with fail
  refine (Marks_any HL6.out).mono ?_
  rintro e w7 ⟨rfl, hB7⟩
  go_wp2_with fail
  obtain ⟨W8, hW8⟩ : ∃ W8, w7.alloc (.cells #[.int .i64 P.h, .int .i64 P.s, .int .i64 P.c, .int .i64 P.g, .int .i64 P.a] 38) = W8 := ⟨_, rfl⟩
  have hB78 : Below w7.heap.size w7 W8 := by rw [← hW8]; exact (Below.refl _ w7).alloc (Nat.le_refl _) _
  have hB68 : Below w6.heap.size w6 W8 := hB7.trans (hB78.mono hB7.size)
  have HX8 : Hid (W8.heap[w7.heap.size]? = some (.cells #[.int .i64 P.h, .int .i64 P.s, .int .i64 P.c, .int .i64 P.g, .int .i64 P.a] 38 (0, 0))) := by show W8.heap[w7.heap.size]? = _; rw [← hW8]; exact heap_alloc_new w7 _
  have HL8 : Hid (Lg w4.heap.size S W8 b P) := HL6.out.below hB68
  have HO8 : Hid (EntsOw w5.heap.size W8 (.slice a6 f6.length c6) f6) := HO6.out.below hB68
  have HB8 : Hid (Below w.heap.size w W8) := HB6.out.trans (hB68.mono HB6.out.size)
  have HZ7 : Hid (w5.heap.size ≤ w7.heap.size) := Nat.le_trans HZ6.out hB7.size
  have HZ8 : Hid (w7.heap.size < W8.heap.size) := by show _ < _; rw [← hW8]; simp
  have HN8 : Hid (w4.heap.size ≤ W8.heap.size) := Nat.le_trans HZ5.out (Nat.le_trans HZ7.out (Nat.le_of_lt HZ8.out))
  rw [hW8]
  clear hB7 hB78 hB68 hW8 HL6 HO6 HB6 HZ6
  have hE8 : EntsAt N W8 ea es := HE.out.below (HB8.out.mono hN)
  have hS8 : Sta S W8 ea es := hE8.sta (N := 0) (Nat.le_trans HN4.out HN8.out) (fun j hj hlt => by have := HS4.out j hj; have := HN4.out; omega)
  refine (Try_any HL8.out HN8.out i t c ea ec es hS8 (by omega) HEC.out.1 HEC.out.2).mono ?_
  rintro e w9 ⟨rfl, hT⟩
  obtain ⟨E, hEE⟩ : ∃ E, es.map Ent.says = E := ⟨_, rfl⟩
  rw [hEE] at hT ⊢
  have hlE : E.length = es.length := by rw [← hEE]; simp
  have HLE : Hid (E.length = es.length) := hlE
  have HL9 : Hid (Lg w4.heap.size (grew S W8 w9) w9 b (trL P i t c E)) := hT.q
  have HO9 : Hid (EntsOw w5.heap.size w9 (.slice a6 f6.length c6) f6) := HO8.out.past hT.out HS5.out
  have HX9 : Hid (w9.heap[w7.heap.size]? = some (.cells #[.int .i64 P.h, .int .i64 P.s, .int .i64 P.c, .int .i64 P.g, .int .i64 P.a] 38 (0, 0))) := (hT.out.block _ HZ8.out (fun hs => by have := HS5.out _ hs; have := HZ7.out; omega)).trans HX8.out
  have HB9 : Hid (Below w.heap.size w w9) := HB8.out.trans ((hT.bel HN8.out).mono HW4.out)
  have HN9 : Hid (w4.heap.size ≤ w9.heap.size) := Nat.le_trans HN8.out hT.out.size
  have HZ9 : Hid (w7.heap.size < w9.heap.size) := Nat.lt_of_lt_of_le HZ8.out hT.out.size
  have HS9 : Hid (∀ j, grew S W8 w9 j → j < w9.heap.size) := hT.q.inn
  have HF9 : Hid (∀ j, grew S W8 w9 j → w4.heap.size ≤ j) := hT.q.fr
  have HG9 : Hid (¬ grew S W8 w9 w7.heap.size) := fun hs => by
    rcases hs with hs | hs
    · have := HS5.out _ hs; have := HZ7.out; omega
    · have := HZ8.out; omega
  have HOK9 : Hid ((trL P i t c E).Ok) := hT.q.ok
  clear hT hE8 hS8 HL8 HO8 HX8 HB8 hlE
  go_wp2_with fail
  refine (Entries_any HL9.out 1 10000).mono ?_
  rintro e wA ⟨vA, fA, rfl, hOA, hsyA, hBA⟩
  obtain ⟨aA, cA, rfl, -, -⟩ := hOA.shape
  have HLA : Hid (Lg w4.heap.size (grew S W8 w9) wA b (trL P i t c E)) := HL9.out.below hBA
  have HO6A : Hid (EntsOw w5.heap.size wA (.slice a6 f6.length c6) f6) := HO9.out.below hBA
  have HOA : Hid (EntsOw w9.heap.size wA (.slice aA fA.length cA) fA) := hOA
  have HSYA : Hid (fA.map Ent.says = enL (trL P i t c E) 1 10000) := hsyA
  have HXQ : Hid (wA.heap[w7.heap.size]? = some (.cells #[.int .i64 P.h, .int .i64 P.s, .int .i64 P.c, .int .i64 P.g, .int .i64 P.a] 38 (0, 0))) := (hBA.block _ HZ9.out).trans HX9.out
  have HBA : Hid (Below w.heap.size w wA) := HB9.out.trans (hBA.mono HB9.out.size)
  have HZA : Hid (w9.heap.size ≤ wA.heap.size) := hBA.size
  have HL6L : Hid (f6.length ≤ 1000000) := by
    show _ ≤ _
    have h1 := enL_len P HOK.out 1 10000
    have h2 := congrArg List.length HSY6.out
    simp at h2
    omega
  have HLAL : Hid (fA.length ≤ 1000000) := by
    show _ ≤ _
    have h1 := enL_len _ HOK9.out 1 10000
    have h2 := congrArg List.length HSYA.out
    simp at h2
    omega
  clear hOA hsyA hBA HL9 HO9 HX9
  cases hY : trY P i t E with
  | false =>
    have e1 := tr_no1 (c := c) hY
    rw [e1.2] at HLA HSYA
    rw [e1.1]
    have HSM : Hid (Calls Try.prog 14 #[.slice a6 f6.length c6, .slice aA fA.length cA] wA.drew fun r w' => r = .returned (.bool true) ∧ Below wA.heap.size wA.drew w') := by
      show Calls _ _ _ _ _
      have := sameEntries_any a6 aA c6 cA f6 fA wA.heap.size wA.drew (HO6A.out.at) (HOA.out.at) (Nat.le_refl _) HL6L.out
      rw [decide_eq_true (HSY6.out.trans HSYA.out.symm)] at this
      exact this
    have HXA : Hid (∀ X, Below wA.heap.size wA X → (X.cell? ⟨w7.heap.size, 0, none⟩ = some (.int .i64 P.h) ∧ X.cell? ⟨w7.heap.size, 1, none⟩ = some (.int .i64 P.s) ∧ X.cell? ⟨w7.heap.size, 2, none⟩ = some (.int .i64 P.c) ∧ X.cell? ⟨w7.heap.size, 3, none⟩ = some (.int .i64 P.g) ∧ X.cell? ⟨w7.heap.size, 4, none⟩ = some (.int .i64 P.a))) := fun X hX => (cells5 ((hX.block _ (Nat.lt_of_lt_of_le HZ9.out HZA.out)).trans HXQ.out)).1
    have HMA : Hid (∀ X, Below wA.heap.size wA X → Calls Try.prog 12 #[.pointer (some ⟨b, 0, none⟩)] X fun e w' => e = .returned (.agg #[.int .i64 P.h, .int .i64 P.s, .int .i64 P.c, .int .i64 P.g, .int .i64 P.a]) ∧ Below X.heap.size X w') := fun X hX => Marks_any (HLA.out.below hX)
    have HBE : Hid (∀ X, Below wA.heap.size wA X → Below w.heap.size w X) := fun X hX => HBA.out.trans (hX.mono HBA.out.size)
    obtain ⟨x0, x1, x2, x3, x4⟩ := HXA.out wA (Below.refl _ _)
    clear HLA HOA HO6A HSYA HSY6 HXQ hY
    generalize P.h = mh at *
    generalize P.s = ms at *
    generalize P.c = mc at *
    generalize P.g = mg at *
    generalize P.a = ma at *
    go_wp2_with fail
    go_region_held3 (fun w' => w'.cell? ⟨w7.heap.size, 0, none⟩ = some (.int .i64 mh) ∧ w'.cell? ⟨w7.heap.size, 1, none⟩ = some (.int .i64 ms) ∧ w'.cell? ⟨w7.heap.size, 2, none⟩ = some (.int .i64 mc) ∧ w'.cell? ⟨w7.heap.size, 3, none⟩ = some (.int .i64 mg) ∧ w'.cell? ⟨w7.heap.size, 4, none⟩ = some (.int .i64 ma)) (go_keep)
      (first
        | (go_at_call 14; refine HSM.out.mono ?_; rintro r wa ⟨rfl, hBa'⟩; have hBa : Below wA.heap.size wA wa := ⟨hBa'.os, hBa'.tape, hBa'.output, hBa'.size, hBa'.block⟩; obtain ⟨y0, y1, y2, y3, y4⟩ := HXA.out wa hBa; clear hBa')
        | (go_at_call 12; refine (HMA.out wa hBa).mono ?_; rintro r wb ⟨rfl, hBb'⟩; have hBb : Below wA.heap.size wA wb := hBa.trans (hBb'.mono hBa.size); obtain ⟨z0, z1, z2, z3, z4⟩ := HXA.out wb hBb; clear hBb')
        | fail)
    go_wp2
    go_ret
    exact ⟨rfl, HBE.out wb hBb⟩
  | true =>
    obtain ⟨y1, y2⟩ := try_twice (c := c) HOK.out hY
    have e1 := (tr_yes (c := c) hY).1
    have e2 := (tr_yes (c := c) y1).1
    rw [e1, HLE.out]
    rw [HLE.out] at e2
    obtain ⟨Q, hQ⟩ : ∃ Q, trL P i t c E = Q := ⟨_, rfl⟩
    rw [hQ] at y1 y2 e2 HLA HSYA HOK9
    have HY1 : Hid (trY Q i t E = true) := y1
    have HY2 : Hid (trL Q i t c E = Q) := y2
    have HE2 : Hid (trA Q i t E = i + (es.length : Int)) := e2
    have HEQ : Hid (es.map Ent.says = E) := hEE
    have hib : 0 ≤ i ∧ i ≤ 4611686018427387904 := by
      have h1 : P.has i t = true := by
        unfold trY at hY
        simp only [Bool.and_eq_true] at hY
        exact hY.1.1
      have h2 := has_er h1
      have h3 := HOK.out.lim
      have h4 := HOK.out.b0
      omega
    have hwr : IntKind.i64.wrap (i + (es.length : Int)) = i + (es.length : Int) := by rw [IntKind.wrap_i64]; omega
    have HIB : Hid (0 ≤ i ∧ i ≤ 4611686018427387904) := hib
    clear hQ y1 y2 e1 e2 hEE hY HSY6 HO6A HL6L HOK hib
    go_wp2_with fail
    refine (Marks_any HLA.out).mono ?_
    rintro e wB ⟨rfl, hBB⟩
    have hxB : wB.heap[w7.heap.size]? = some (.cells #[.int .i64 P.h, .int .i64 P.s, .int .i64 P.c, .int .i64 P.g, .int .i64 P.a] 38 (0, 0)) := (hBB.block _ (Nat.lt_of_lt_of_le HZ9.out HZA.out)).trans HXQ.out
    obtain ⟨⟨x0, x1, x2, x3, x4⟩, xf⟩ := cells5 hxB
    have hOC : Out (fun j => j = w7.heap.size) wB (((((wB.setCell ⟨w7.heap.size, 0, none⟩ (.int .i64 Q.h)).setCell ⟨w7.heap.size, 1, none⟩ (.int .i64 Q.s)).setCell ⟨w7.heap.size, 2, none⟩ (.int .i64 Q.c)).setCell ⟨w7.heap.size, 3, none⟩ (.int .i64 Q.g)).setCell ⟨w7.heap.size, 4, none⟩ (.int .i64 Q.a)) := (((((Out.refl (fun j => j = w7.heap.size) wB).put rfl).put rfl).put rfl).put rfl).put rfl
    have hxC : (((((wB.setCell ⟨w7.heap.size, 0, none⟩ (.int .i64 Q.h)).setCell ⟨w7.heap.size, 1, none⟩ (.int .i64 Q.s)).setCell ⟨w7.heap.size, 2, none⟩ (.int .i64 Q.c)).setCell ⟨w7.heap.size, 3, none⟩ (.int .i64 Q.g)).setCell ⟨w7.heap.size, 4, none⟩ (.int .i64 Q.a)).heap[w7.heap.size]? = some (.cells #[.int .i64 Q.h, .int .i64 Q.s, .int .i64 Q.c, .int .i64 Q.g, .int .i64 Q.a] 38 (0, 0)) := by rw [heap_set (heap_set (heap_set (heap_set (heap_set hxB 0 _) 1 _) 2 _) 3 _) 4 _]; rfl
    have HLB := HLA.out.below hBB
    have HLC : Hid (Lg w4.heap.size (grew S W8 w9) (((((wB.setCell ⟨w7.heap.size, 0, none⟩ (.int .i64 Q.h)).setCell ⟨w7.heap.size, 1, none⟩ (.int .i64 Q.s)).setCell ⟨w7.heap.size, 2, none⟩ (.int .i64 Q.c)).setCell ⟨w7.heap.size, 3, none⟩ (.int .i64 Q.g)).setCell ⟨w7.heap.size, 4, none⟩ (.int .i64 Q.a)) b Q) := HLB.out hOC (fun j hj e => HG9.out (by rw [← show j = w7.heap.size from e]; exact hj))
    have HOC : Hid (EntsOw w9.heap.size (((((wB.setCell ⟨w7.heap.size, 0, none⟩ (.int .i64 Q.h)).setCell ⟨w7.heap.size, 1, none⟩ (.int .i64 Q.s)).setCell ⟨w7.heap.size, 2, none⟩ (.int .i64 Q.c)).setCell ⟨w7.heap.size, 3, none⟩ (.int .i64 Q.g)).setCell ⟨w7.heap.size, 4, none⟩ (.int .i64 Q.a)) (.slice aA fA.length cA) fA) := (HOA.out.below hBB).past hOC (fun j hj => by have : j = w7.heap.size := hj; have := HZ9.out; omega)
    have HBC : Hid (Below w.heap.size w (((((wB.setCell ⟨w7.heap.size, 0, none⟩ (.int .i64 Q.h)).setCell ⟨w7.heap.size, 1, none⟩ (.int .i64 Q.s)).setCell ⟨w7.heap.size, 2, none⟩ (.int .i64 Q.c)).setCell ⟨w7.heap.size, 3, none⟩ (.int .i64 Q.g)).setCell ⟨w7.heap.size, 4, none⟩ (.int .i64 Q.a))) := (HBA.out.trans (hBB.mono HBA.out.size)).trans (hOC.below (by have := HBA.out.size; have := hBB.size; omega) (fun j hj => by have : j = w7.heap.size := hj; have := HW4.out; have := HZ5.out; have := HZ7.out; omega))
    have HZC : Hid (wA.heap.size ≤ (((((wB.setCell ⟨w7.heap.size, 0, none⟩ (.int .i64 Q.h)).setCell ⟨w7.heap.size, 1, none⟩ (.int .i64 Q.s)).setCell ⟨w7.heap.size, 2, none⟩ (.int .i64 Q.c)).setCell ⟨w7.heap.size, 3, none⟩ (.int .i64 Q.g)).setCell ⟨w7.heap.size, 4, none⟩ (.int .i64 Q.a)).heap.size) := Nat.le_trans hBB.size hOC.size
    have HXC : Hid ((((((wB.setCell ⟨w7.heap.size, 0, none⟩ (.int .i64 Q.h)).setCell ⟨w7.heap.size, 1, none⟩ (.int .i64 Q.s)).setCell ⟨w7.heap.size, 2, none⟩ (.int .i64 Q.c)).setCell ⟨w7.heap.size, 3, none⟩ (.int .i64 Q.g)).setCell ⟨w7.heap.size, 4, none⟩ (.int .i64 Q.a)).heap[w7.heap.size]? = some (.cells #[.int .i64 Q.h, .int .i64 Q.s, .int .i64 Q.c, .int .i64 Q.g, .int .i64 Q.a] 38 (0, 0))) := hxC
    clear hBB hxB hOC hxC HLB HLA HOA HXQ HBA
    go_wp2_with fail
    generalize (((((wB.setCell ⟨w7.heap.size, 0, none⟩ (.int .i64 Q.h)).setCell ⟨w7.heap.size, 1, none⟩ (.int .i64 Q.s)).setCell ⟨w7.heap.size, 2, none⟩ (.int .i64 Q.c)).setCell ⟨w7.heap.size, 3, none⟩ (.int .i64 Q.g)).setCell ⟨w7.heap.size, 4, none⟩ (.int .i64 Q.a)) = wC at *
    have hEC : EntsAt N wC ea es := HE.out.below (HBC.out.mono hN)
    have hSC : Sta (grew S W8 w9) wC ea es := hEC.sta (N := 0) (Nat.le_trans hN HBC.out.size) (fun j hj hlt => by have := HF9.out j hj; have := HN4.out; omega)
    have HNC : Hid (w4.heap.size ≤ wC.heap.size) := Nat.le_trans HN9.out (Nat.le_trans HZA.out HZC.out)
    have htry := Try_any HLC.out HNC.out i t c ea ec es hSC (by omega) HEC.out.1 HEC.out.2
    rw [HEQ.out, HY1.out, HY2.out, HE2.out] at htry
    refine htry.mono ?_
    rintro e wD ⟨rfl, hT⟩
    have HLD : Hid (Lg w4.heap.size (grew (grew S W8 w9) wC wD) wD b Q) := hT.q
    have HOD : Hid (EntsOw w9.heap.size wD (.slice aA fA.length cA) fA) := HOC.out.past hT.out HS9.out
    have HXD : Hid (wD.heap[w7.heap.size]? = some (.cells #[.int .i64 Q.h, .int .i64 Q.s, .int .i64 Q.c, .int .i64 Q.g, .int .i64 Q.a] 38 (0, 0))) := (hT.out.block _ (Nat.lt_of_lt_of_le HZ9.out (Nat.le_trans HZA.out HZC.out)) HG9.out).trans HXC.out
    have HBD : Hid (Below w.heap.size w wD) := HBC.out.trans ((hT.bel HNC.out).mono HW4.out)
    have HZD : Hid (w7.heap.size < wD.heap.size) := Nat.lt_of_lt_of_le HZ9.out (Nat.le_trans HZA.out (Nat.le_trans HZC.out hT.out.size))
    clear hT htry hEC hSC HLC HOC HXC HBC HEQ
    go_wp2_with fail
    refine (Entries_any HLD.out 1 10000).mono ?_
    rintro e wE ⟨vE, fE, rfl, hOE, hsyE, hBE⟩
    obtain ⟨aE, cE, rfl, -, -⟩ := hOE.shape
    have HLE2 : Hid (Lg w4.heap.size (grew (grew S W8 w9) wC wD) wE b Q) := HLD.out.below hBE
    have HOAE : Hid (EntsOw w9.heap.size wE (.slice aA fA.length cA) fA) := HOD.out.below hBE
    have HXE : Hid (wE.heap[w7.heap.size]? = some (.cells #[.int .i64 Q.h, .int .i64 Q.s, .int .i64 Q.c, .int .i64 Q.g, .int .i64 Q.a] 38 (0, 0))) := (hBE.block _ HZD.out).trans HXD.out
    have HZE : Hid (w7.heap.size < wE.heap.size) := Nat.lt_of_lt_of_le HZD.out hBE.size
    have HBE2 : Hid (Below w.heap.size w wE) := HBD.out.trans (hBE.mono HBD.out.size)
    have HSM : Hid (Calls Try.prog 14 #[.slice aA fA.length cA, .slice aE fE.length cE] wE.drew fun r w' => r = .returned (.bool true) ∧ Below wE.heap.size wE.drew w') := by
      show Calls _ _ _ _ _
      have := sameEntries_any aA aE cA cE fA fE wE.heap.size wE.drew (HOAE.out.at) (hOE.at) (Nat.le_refl _) HLAL.out
      rw [decide_eq_true (HSYA.out.trans hsyE.symm)] at this
      exact this
    have HXA : Hid (∀ X, Below wE.heap.size wE X → (X.cell? ⟨w7.heap.size, 0, none⟩ = some (.int .i64 Q.h) ∧ X.cell? ⟨w7.heap.size, 1, none⟩ = some (.int .i64 Q.s) ∧ X.cell? ⟨w7.heap.size, 2, none⟩ = some (.int .i64 Q.c) ∧ X.cell? ⟨w7.heap.size, 3, none⟩ = some (.int .i64 Q.g) ∧ X.cell? ⟨w7.heap.size, 4, none⟩ = some (.int .i64 Q.a))) := fun X hX => (cells5 ((hX.block _ HZE.out).trans HXE.out)).1
    have HMA : Hid (∀ X, Below wE.heap.size wE X → Calls Try.prog 12 #[.pointer (some ⟨b, 0, none⟩)] X fun e w' => e = .returned (.agg #[.int .i64 Q.h, .int .i64 Q.s, .int .i64 Q.c, .int .i64 Q.g, .int .i64 Q.a]) ∧ Below X.heap.size X w') := fun X hX => Marks_any (HLE2.out.below hX)
    have HBE : Hid (∀ X, Below wE.heap.size wE X → Below w.heap.size w X) := fun X hX => HBE2.out.trans (hX.mono HBE2.out.size)
    clear x0 x1 x2 x3 x4 xf hOE hsyE hBE HLD HOD HXD HBD HOAE HSYA
    obtain ⟨x0, x1, x2, x3, x4⟩ := HXA.out wE (Below.refl _ _)
    generalize Q.h = mh at *
    generalize Q.s = ms at *
    generalize Q.c = mc at *
    generalize Q.g = mg at *
    generalize Q.a = ma at *
    go_wp2_with fail
    go_region_held3 (fun w' => w'.cell? ⟨w7.heap.size, 0, none⟩ = some (.int .i64 mh) ∧ w'.cell? ⟨w7.heap.size, 1, none⟩ = some (.int .i64 ms) ∧ w'.cell? ⟨w7.heap.size, 2, none⟩ = some (.int .i64 mc) ∧ w'.cell? ⟨w7.heap.size, 3, none⟩ = some (.int .i64 mg) ∧ w'.cell? ⟨w7.heap.size, 4, none⟩ = some (.int .i64 ma)) (go_keep)
      (first
        | (go_at_call 14; refine HSM.out.mono ?_; rintro r wa ⟨rfl, hBa'⟩; have hBa : Below wE.heap.size wE wa := ⟨hBa'.os, hBa'.tape, hBa'.output, hBa'.size, hBa'.block⟩; obtain ⟨u0, u1, u2, u3, u4⟩ := HXA.out wa hBa; clear hBa')
        | (go_at_call 12; refine (HMA.out wa hBa).mono ?_; rintro r wb ⟨rfl, hBb'⟩; have hBb : Below wE.heap.size wE wb := hBa.trans (hBb'.mono hBa.size); obtain ⟨z0, z1, z2, z3, z4⟩ := HXA.out wb hBb; clear hBb')
        | fail)
    go_wp2
    go_ret
    exact ⟨rfl, HBE.out wb hBb⟩

theorem logTwice_in (w : World) {a0 : Option Addr} {n0 c0 : Nat} (x0 : List Int) (s0 : ISl w.heap.size w (.slice a0 n0 c0) x0) (z1 : Int) {p1 : Prop} (_ : p1) (z2 : Int) {p2 : Prop} (_ : p2) (z3 : Int) {p3 : Prop} (_ : p3) {ea : Option Addr} {ec : Nat} (es : List Ent) (s : EntsAt w.heap.size w ea es ∧ es.length ≤ ec ∧ ec ≤ maxLen) :
    Calls Try.prog 3 #[.slice a0 n0 c0, .int .i64 z1, .int .i64 z2, .int .i64 z3, .slice ea es.length ec] w fun e w' => e = .returned (.bool true) ∧ Below w.heap.size w w' :=
  twice_walk w.heap.size _ x0 z1 z2 z3 ea ec es w s0 s.1 (Nat.le_refl _) s.2.1 s.2.2
end Go.Proofs.Yteekpfgjpdopmab
