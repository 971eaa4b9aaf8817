/-
  The document's log: Hint.
-/
import Derived.Test.YteekpfgjpdopmaaRn
namespace Go.Proofs.Yteekpfgjpdopmaa
open Go.RowKit
set_option linter.unusedVariables false

theorem hiA_base {P : PL} {t z : Int} (h : z ≤ P.bi) : hiA P t z = P.bi := by
  unfold hiA
  by_cases h1 : z < P.bi
  · rw [if_pos h1]
  · rw [if_neg h1, show (z - P.bi).toNat = 0 by omega]; rfl

set_option maxRecDepth 100000 in
set_option maxHeartbeats 4000000 in
theorem RHint_any {N : Nat} {S : Nat → Prop} {w : World} {b : Nat} {P : PL} (h : Rg N S w b P) (i t : Int) :
    Calls Try.prog 63 #[.pointer (some ⟨b, 0, none⟩), .int .i64 i, .int .i64 t] w fun e w' => e = .returned (.int .i64 (hint P i t)) ∧ Below w.heap.size w w' := by
  obtain ⟨va, vc, hcs⟩ := h.cs
  have HCS : Hid (∀ w1, Below w.heap.size w w1 → _) := hcs
  have HL : Hid (Calls _ _ _ _ _) := RLast_any h
  have HAT : Hid (∀ w1 z, Below w.heap.size w w1 → Calls Try.prog 57 #[.pointer (some ⟨b, 0, none⟩), .int .i64 z] w1 fun e w' => e = .returned (.tuple #[.int .i64 (P.tt z), .int .i64 (P.er z : Int)]) ∧ Below w1.heap.size w1 w') := fun w1 z hB => RAt_any (h.below hB) z
  have HLM : Hid ((0 ≤ P.bi ∧ P.bi ≤ 4611686018427387904) ∧ P.li ≤ 4611686018427387904) := ⟨⟨h.ok.b0.1, h.ok.b0.2.1⟩, h.ok.lim.2⟩
  obtain ⟨R, HR⟩ : ∃ R, Hid (hint P i t = R) := ⟨_, rfl⟩
  rw [HR.out]
  have HR2 : Hid (∀ z, z = min i P.li → hiA P t z = R) := fun z hz => by rw [hz, ← HR.out]; rfl
  clear h hcs
  go_enter Try.func63, Try.ntmps63
  go_wp2_with fail
  refine HL.out.mono ?_
  rintro r w1 ⟨rfl, hB1⟩
  have HB1 : Hid (Below w.heap.size w w1) := hB1
  clear hB1 HL
  go_wp2_with fail
  all_goals
    go_loopw [7] (fun iv wr => ∃ (z : Int), iv = .int .i64 z ∧ z ≤ P.li ∧ hiA P t z = R ∧ Below w.heap.size w wr) (fun iv _ => (intOf iv - P.bi + 1).toNat)
    case atStart => exact ⟨_, rfl, by omega, HR2.out _ (by omega), HB1.out⟩
    case round =>
      obtain ⟨z, rfl, hz, hR, hB⟩ := hrel
      have HRK : Hid (hiA P t z = R) := hR
      have HB : Hid (Below w.heap.size w wr) := hB
      obtain ⟨⟨k0, -, -, -, -, -, -, -⟩, -, kb⟩ := HCS.out wr hB
      clear hR hB HR2 HB1
      by_cases h1 : P.bi < z
      · have e1 : P.er z = 0 := by unfold PL.er; rw [if_neg (by omega), if_neg (by omega)]
        have e2 : P.tt z = P.tm z := by unfold PL.tt; rw [e1]; rfl
        have hT := HAT.out wr z HB.out
        rw [e1, e2] at hT
        have HT : Hid (Calls _ _ _ _ _) := hT
        clear hT e1 e2
        by_cases h2 : P.tm z ≤ t
        · have HR3 : Hid (R = z) := by show _ = _; rw [← HRK.out]; exact hiA_yes (by omega) h2
          generalize P.tm z = q at *
          go_wp2_with (go_at_call 57; refine HT.out.mono ?_; rintro r w5 ⟨rfl, hB5⟩; have HB5 : Hid (Below w.heap.size w w5) := HB.out.trans (hB5.mono HB.out.size); clear hB5)
          try rw [Exit.noGoto_ret]
          go_ret
          exact ⟨by rw [HR3.out]; rfl, HB5.out⟩
        · have HR3 : Hid (hiA P t (z - 1) = R) := by show _ = _; rw [← HRK.out]; exact (hiA_no (by omega) h2).symm
          have hw1 : IntKind.i64.wrap (z - 1) = z - 1 := by have := HLM.out; rw [IntKind.wrap_i64]; omega
          generalize P.tm z = q at *
          go_wp2_with (go_at_call 57; refine HT.out.mono ?_; rintro r w5 ⟨rfl, hB5⟩; have HB5 : Hid (Below w.heap.size w w5) := HB.out.trans (hB5.mono HB.out.size); clear hB5)
          exact ⟨⟨z - 1, rfl, by omega, HR3.out, HB5.out⟩, by simp [intOf]; omega⟩
      · have HR3 : Hid (R = P.bi) := by show _ = _; rw [← HRK.out]; exact hiA_base (by omega)
        go_wp2
        go_ret
        exact ⟨by rw [HR3.out]; rfl, HB.out⟩
end Go.Proofs.Yteekpfgjpdopmaa
