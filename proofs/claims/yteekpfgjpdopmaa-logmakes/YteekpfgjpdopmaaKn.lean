/-
  known; Hint.
-/
import Derived.Test.YteekpfgjpdopmaaAd
import Derived.WalkMore
namespace Go.Proofs.Yteekpfgjpdopmaa
open Go.RowKit
set_option linter.unusedVariables false

/-- How many of these, from the first on, are there with their terms. -/
def knN (P : PL) : List En → Nat
  | [] => 0
  | e :: r => if P.has (eI e) (eT e) = true then knN P r + 1 else 0
theorem knN_le (P : PL) : ∀ E : List En, knN P E ≤ E.length
  | [] => Nat.le_refl _
  | e :: r => by
    unfold knN
    have := knN_le P r
    split <;> simp <;> omega

theorem has_split (P : PL) (i t : Int) : P.has i t = true ↔ P.er i = 0 ∧ P.tt i = t := by
  unfold PL.has PL.tt
  by_cases h : P.er i = 0 <;> simp [h]

set_option maxRecDepth 100000 in
set_option maxHeartbeats 4000000 in
theorem known_any {N : Nat} {S : Nat → Prop} {w : World} {b : Nat} {P : PL} (h : Lg N S w b P) (va : Option Addr) (vc : Nat) (es : List Ent) (M : Nat) (hE : EntsAt M w va es) (hM : M ≤ w.heap.size) (hn : es.length ≤ 1000000) :
    Calls Try.prog 74 #[.pointer (some ⟨b, 0, none⟩), .slice va es.length vc] w fun e w' => e = .returned (.int .i64 (knN P (es.map Ent.says) : Int)) ∧ Below w.heap.size w w' := by
  have HH : Hid (Lg N S w b P) := h
  have HE : Hid (EntsAt M w va es) := hE
  have HM : Hid (M ≤ w.heap.size) := hM
  obtain ⟨R, HR⟩ : ∃ R, Hid (knN P (es.map Ent.says) = R) := ⟨_, rfl⟩
  rw [HR.out]
  clear h hE hM
  go_enter Try.func74, Try.ntmps74
  go_wp2_with fail
  go_step3
  go_wp2_with fail
  go_step3
  go_wp2_with fail
  go_loopw [5] (fun iv wr => ∃ (k : Nat), iv = .int .i64 (k : Int) ∧ k ≤ es.length ∧ k + knN P ((es.map Ent.says).drop k) = R ∧ Below w.heap.size w wr) (fun iv _ => es.length - (intOf iv).toNat)
  case atStart => exact ⟨0, rfl, Nat.zero_le _, by simpa using HR.out, Below.refl _ _⟩
  case round =>
    obtain ⟨k, rfl, hk, hR, hB⟩ := hrel
    have HRK : Hid (k + knN P ((es.map Ent.says).drop k) = R) := hR
    have HB : Hid (Below w.heap.size w wr) := hB
    clear hR hB
    by_cases hlt : k < es.length
    · obtain ⟨b1, off, hea, hbM, he⟩ := HE.out.at hlt
      subst hea
      have he' := he.below hbM (HB.out.mono HM.out)
      have HD : Hid ((es.map Ent.says).drop k = (es.getD k nilEnt).says :: (es.map Ent.says).drop (k + 1)) := saysdrop hlt
      generalize es.getD k nilEnt = e at *
      obtain ⟨et, ei, ek, eaa, ecc, ed⟩ := e
      obtain ⟨c0, c1, -, -, -⟩ := he'
      simp only at c0 c1
      have hbw : b1 < wr.heap.size := by have := HB.out.size; have := HM.out; omega
      have hT := Term_any (HH.out.below HB.out) ei
      have HC : Hid (∀ w5, Below wr.heap.size wr w5 → w5.cell? ⟨b1, off + k * 4, none⟩ = some (.int .i64 et) ∧ b1 < w5.heap.size ∧ Below w.heap.size w w5) := fun w5 h5 => ⟨(h5.cell (p := ⟨b1, off + k * 4, none⟩) hbw).trans c0, by have := h5.size; omega, HB.out.trans (h5.mono HB.out.size)⟩
      have HKN : Hid (knN P ((es.map Ent.says).drop k) = if P.has ei et = true then knN P ((es.map Ent.says).drop (k + 1)) + 1 else 0) := by show _ = _; rw [HD.out]; rfl
      have i0 : (0 : Int) ≤ (k : Int) := by omega
      have i1 : (k : Int) < (es.length : Int) := by omega
      clear he
      by_cases h1 : P.er ei = 0
      · rw [h1] at hT
        by_cases h2 : P.tt ei = et
        · have HR2 : Hid (k + 1 + knN P ((es.map Ent.says).drop (k + 1)) = R) := by
            show _ = _
            rw [← HRK.out, HKN.out, if_pos ((has_split P ei et).2 ⟨h1, h2⟩)]; omega
          rw [h2] at hT
          clear h1 h2
          go_wp2_with (go_at_call 56; refine hT.mono ?_; rintro r w5 ⟨rfl, hB5⟩; obtain ⟨k0, hb5, hBB⟩ := HC.out w5 hB5; have HBB : Hid (Below _ _ _) := hBB; clear hBB hB5)
          exact ⟨⟨k + 1, by go_num, by omega, HR2.out, HBB.out⟩, by simp [intOf]; omega⟩
        · have HR2 : Hid (R = k) := by
            show _ = _
            rw [← HRK.out, HKN.out, if_neg (fun h => h2 ((has_split P ei et).1 h).2)]; rfl
          generalize P.tt ei = q at *
          have h2' : (q != et) = true := by simpa using h2
          clear h1 h2
          go_wp2_with (go_at_call 56; refine hT.mono ?_; rintro r w5 ⟨rfl, hB5⟩; obtain ⟨k0, hb5, hBB⟩ := HC.out w5 hB5; have HBB : Hid (Below _ _ _) := hBB; clear hBB hB5)
          try rw [Exit.noGoto_ret]
          go_ret
          exact ⟨by have := HR2.out; subst this; rfl, HBB.out⟩
      · have HR2 : Hid (R = k) := by
          show _ = _
          rw [← HRK.out, HKN.out, if_neg (fun h => h1 ((has_split P ei et).1 h).1)]; rfl
        generalize P.er ei = q at *
        have h1' : ((q : Int) != 0) = true := by simp; omega
        clear h1
        go_wp2_with (go_at_call 56; refine hT.mono ?_; rintro r w5 ⟨rfl, hB5⟩; obtain ⟨k0, hb5, hBB⟩ := HC.out w5 hB5; have HBB : Hid (Below _ _ _) := hBB; clear hBB hB5)
        try rw [Exit.noGoto_ret]
        go_ret
        exact ⟨by have := HR2.out; subst this; rfl, HBB.out⟩
    · have HR2 : Hid (R = k) := by
        show _ = _
        rw [← HRK.out, List.drop_of_length_le (by simp; omega)]; rfl
      go_wp2
      try rw [Exit.noGoto_ret]
      go_ret
      exact ⟨by have := HR2.out; subst this; rfl, HB.out⟩
end Go.Proofs.Yteekpfgjpdopmaa
