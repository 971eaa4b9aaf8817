/-
  Hint.
-/
import Derived.Test.YteekpfgjpdopmaaKn
namespace Go.Proofs.Yteekpfgjpdopmaa
open Go.RowKit
set_option linter.unusedVariables false

/-- The greatest index from the base on whose term is at most t, from an offset downwards. -/
def hin (P : PL) (t : Int) : Nat → Int
  | 0 => P.bi
  | n + 1 => if P.tm (P.bi + ((n + 1 : Nat) : Int)) ≤ t then P.bi + ((n + 1 : Nat) : Int) else hin P t n
def hiA (P : PL) (t a : Int) : Int := if a < P.bi then P.bi else hin P t (a - P.bi).toNat
/-- Hint. -/
def hint (P : PL) (i t : Int) : Int := hiA P t (min i P.li)

theorem hiA_yes {P : PL} {t a : Int} (h : P.bi ≤ a) (ht : P.tm a ≤ t) : hiA P t a = a := by
  unfold hiA
  rw [if_neg (by omega)]
  obtain ⟨n, rfl⟩ : ∃ n : Nat, a = P.bi + (n : Int) := ⟨(a - P.bi).toNat, by omega⟩
  rw [show (P.bi + (n : Int) - P.bi).toNat = n by omega]
  cases n with
  | zero => simp [hin]
  | succ n => unfold hin; rw [if_pos ht]
theorem hiA_no {P : PL} {t a : Int} (h : P.bi ≤ a) (ht : ¬ P.tm a ≤ t) : hiA P t a = hiA P t (a - 1) := by
  unfold hiA
  rw [if_neg (by omega)]
  obtain ⟨n, rfl⟩ : ∃ n : Nat, a = P.bi + (n : Int) := ⟨(a - P.bi).toNat, by omega⟩
  rw [show (P.bi + (n : Int) - P.bi).toNat = n by omega]
  cases n with
  | zero => rw [if_pos (by omega)]; rfl
  | succ n =>
    rw [if_neg (by omega), hin, if_neg ht]
    congr 1
    omega

set_option maxRecDepth 100000 in
set_option maxHeartbeats 4000000 in
theorem Hint_any {N : Nat} {S : Nat → Prop} {w : World} {b : Nat} {P : PL} (h : Lg N S w b P) (i t : Int) :
    Calls Try.prog 40 #[.pointer (some ⟨b, 0, none⟩), .int .i64 i, .int .i64 t] w fun e w' => e = .returned (.int .i64 (hint P i t)) ∧ Below w.heap.size w w' := by
  have HH : Hid (Lg N S w b P) := h
  have HL : Hid (Calls _ _ _ _ _) := last_any h
  have hlim := h.ok.lim
  have hb0 := h.ok.b0
  have hbw := h.inn _ h.Sb
  obtain ⟨va, vc, es, hb, -⟩ := h.cells
  have HC : Hid (∀ w1, Below w.heap.size w w1 → w1.cell? ⟨b, 0, none⟩ = some (.int .i64 P.bi) ∧ b < w1.heap.size) := fun w1 hB => ⟨(hB.cell (p := ⟨b, 0, none⟩) hbw).trans (cells8 hb).1.1, by have := hB.size; omega⟩
  obtain ⟨R, HR⟩ : ∃ R, Hid (hint P i t = R) := ⟨_, rfl⟩
  rw [HR.out]
  obtain ⟨Y, hY, hcase⟩ : ∃ Y, Hid (min i P.li = Y) ∧ ((i ≤ P.li ∧ Y = i) ∨ (P.li < i ∧ Y = P.li)) := ⟨_, rfl, by omega⟩
  have HR2 : Hid (hiA P t Y = R) := by show _ = _; rw [← HR.out, ← hY.out]; rfl
  have HYL : Hid (Y ≤ P.li) := by show _ ≤ _; omega
  have hfi := place_index
  clear h hb
  rcases hcase with ⟨a1, a2⟩ | ⟨a1, a2⟩
  · subst a2
    go_enter Try.func40, Try.ntmps40
    go_wp2_with fail
    go_step3
    go_wp2_with (go_at_call 69; refine HL.out.mono ?_; rintro r w1 ⟨rfl, hB1⟩; have HB1 : Hid (Below _ _ _) := hB1; clear hB1 HL)
    go_step3
    go_wp2_with fail
    go_loopw [7] (fun iv wr => ∃ (z : Int), iv = .int .i64 z ∧ z ≤ P.li ∧ hiA P t z = R ∧ Below w.heap.size w wr) (fun iv _ => (intOf iv - P.bi + 1).toNat)
    case atStart => exact ⟨_, rfl, HYL.out, HR2.out, HB1.out⟩
    case round =>
      obtain ⟨z, rfl, hz, hR, hB⟩ := hrel
      have HRK : Hid (hiA P t z = R) := hR
      have HB : Hid (Below w.heap.size w wr) := hB
      have hT := Term_any (HH.out.below hB) z
      have HBT : Hid (∀ w5, Below wr.heap.size wr w5 → Below w.heap.size w w5) := fun w5 h5 => HB.out.trans (h5.mono HB.out.size)
      clear hR hB HR2 HYL HB1
      by_cases h1 : z < P.bi
      · have e1 : P.er z = 14 := by unfold PL.er; rw [if_pos h1]
        have HR3 : Hid (R = P.bi) := by show _ = _; rw [← HRK.out]; unfold hiA; rw [if_pos h1]
        rw [e1] at hT
        clear e1
        go_wp2_with (go_at_call 56; refine hT.mono ?_; rintro r w5 ⟨rfl, hB5⟩; have HB5 : Hid (Below _ _ _) := HBT.out w5 hB5; obtain ⟨k0, hb5⟩ := HC.out w5 HB5.out; clear hB5)
        try rw [Exit.noGoto_ret]
        go_ret
        exact ⟨by have := HR3.out; subst this; rfl, HB5.out⟩
      · have e1 : P.er z = 0 := by unfold PL.er; rw [if_neg h1, if_neg (by omega)]
        have e2 : P.tt z = P.tm z := by unfold PL.tt; rw [e1]; rfl
        rw [e1, e2] at hT
        by_cases h2 : P.tm z ≤ t
        · have HR3 : Hid (R = z) := by show _ = _; rw [← HRK.out]; exact hiA_yes (by omega) h2
          clear e1 e2
          generalize P.tm z = q at *
          go_wp2_with (go_at_call 56; refine hT.mono ?_; rintro r w5 ⟨rfl, hB5⟩; have HB5 : Hid (Below _ _ _) := HBT.out w5 hB5; obtain ⟨k0, hb5⟩ := HC.out w5 HB5.out; clear hB5)
          try rw [Exit.noGoto_ret]
          go_ret
          exact ⟨by have := HR3.out; subst this; rfl, HB5.out⟩
        · have HR3 : Hid (hiA P t (z - 1) = R) := by show _ = _; rw [← HRK.out]; exact (hiA_no (by omega) h2).symm
          clear e1 e2
          generalize P.tm z = q at *
          go_wp2_with (go_at_call 56; refine hT.mono ?_; rintro r w5 ⟨rfl, hB5⟩; have HB5 : Hid (Below _ _ _) := HBT.out w5 hB5; obtain ⟨k0, hb5⟩ := HC.out w5 HB5.out; clear hB5)
          exact ⟨⟨z - 1, rfl, by omega, HR3.out, HB5.out⟩, by simp [intOf]; omega⟩
  · rw [a2] at HR2 HYL
    clear a2 hY
    go_enter Try.func40, Try.ntmps40
    go_wp2_with fail
    go_step3
    go_wp2_with (go_at_call 69; refine HL.out.mono ?_; rintro r w1 ⟨rfl, hB1⟩; have HB1 : Hid (Below _ _ _) := hB1; clear hB1 HL)
    go_step3
    go_wp2_with fail
    go_loopw [7] (fun iv wr => ∃ (z : Int), iv = .int .i64 z ∧ z ≤ P.li ∧ hiA P t z = R ∧ Below w.heap.size w wr) (fun iv _ => (intOf iv - P.bi + 1).toNat)
    case atStart => exact ⟨_, rfl, HYL.out, HR2.out, HB1.out⟩
    case round =>
      obtain ⟨z, rfl, hz, hR, hB⟩ := hrel
      have HRK : Hid (hiA P t z = R) := hR
      have HB : Hid (Below w.heap.size w wr) := hB
      have hT := Term_any (HH.out.below hB) z
      have HBT : Hid (∀ w5, Below wr.heap.size wr w5 → Below w.heap.size w w5) := fun w5 h5 => HB.out.trans (h5.mono HB.out.size)
      clear hR hB HR2 HYL HB1
      by_cases h1 : z < P.bi
      · have e1 : P.er z = 14 := by unfold PL.er; rw [if_pos h1]
        have HR3 : Hid (R = P.bi) := by show _ = _; rw [← HRK.out]; unfold hiA; rw [if_pos h1]
        rw [e1] at hT
        clear e1
        go_wp2_with (go_at_call 56; refine hT.mono ?_; rintro r w5 ⟨rfl, hB5⟩; have HB5 : Hid (Below _ _ _) := HBT.out w5 hB5; obtain ⟨k0, hb5⟩ := HC.out w5 HB5.out; clear hB5)
        try rw [Exit.noGoto_ret]
        go_ret
        exact ⟨by have := HR3.out; subst this; rfl, HB5.out⟩
      · have e1 : P.er z = 0 := by unfold PL.er; rw [if_neg h1, if_neg (by omega)]
        have e2 : P.tt z = P.tm z := by unfold PL.tt; rw [e1]; rfl
        rw [e1, e2] at hT
        by_cases h2 : P.tm z ≤ t
        · have HR3 : Hid (R = z) := by show _ = _; rw [← HRK.out]; exact hiA_yes (by omega) h2
          clear e1 e2
          generalize P.tm z = q at *
          go_wp2_with (go_at_call 56; refine hT.mono ?_; rintro r w5 ⟨rfl, hB5⟩; have HB5 : Hid (Below _ _ _) := HBT.out w5 hB5; obtain ⟨k0, hb5⟩ := HC.out w5 HB5.out; clear hB5)
          try rw [Exit.noGoto_ret]
          go_ret
          exact ⟨by have := HR3.out; subst this; rfl, HB5.out⟩
        · have HR3 : Hid (hiA P t (z - 1) = R) := by show _ = _; rw [← HRK.out]; exact (hiA_no (by omega) h2).symm
          clear e1 e2
          generalize P.tm z = q at *
          go_wp2_with (go_at_call 56; refine hT.mono ?_; rintro r w5 ⟨rfl, hB5⟩; have HB5 : Hid (Below _ _ _) := HBT.out w5 hB5; obtain ⟨k0, hb5⟩ := HC.out w5 HB5.out; clear hB5)
          exact ⟨⟨z - 1, rfl, by omega, HR3.out, HB5.out⟩, by simp [intOf]; omega⟩
end Go.Proofs.Yteekpfgjpdopmaa
