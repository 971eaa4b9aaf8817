/-
  The document's names.
-/
import Derived.Test.YtbjnhohfdpdcnaaLaw
namespace Go.Proofs.Ytbjnhohfdpdcnaa
open Go.RowKit
set_option linter.unusedVariables false
set_option linter.unusedSimpArgs false

set_option maxRecDepth 100000 in
set_option maxHeartbeats 4000000 in
theorem refName_any (nm : List UInt8) (w : World) (hl : nm.length ≤ maxLen) : Calls Try.prog 52 #[.string ⟨nm.toArray⟩] w fun r w' => r = .returned (.bool (isNm nm)) ∧ w' = w := by
  unfold maxLen at hl
  have HI : Hid (nm.all (fun x => ofNm x.toNat) = true → isNm nm = (decide (1 ≤ nm.length) && decide (nm.length ≤ 32))) := fun h => by simp [isNm, h]
  go_enter Try.func52, Try.ntmps52
  go_wp2
  go_loopw [3] (fun iv wr => ∃ k : Nat, iv = .int .i64 (k : Int) ∧ k ≤ nm.length ∧ wr = w ∧ (nm.take k).all (fun x => ofNm x.toNat) = true) (fun iv _ => nm.length - (intOf iv).toNat)
  case atStart => exact ⟨0, rfl, Nat.zero_le _, rfl, by simp⟩
  case round =>
    obtain ⟨k, rfl, hk, rfl, hall⟩ := hrel
    have HA : Hid ((nm.take k).all (fun x => ofNm x.toNat) = true) := hall
    clear hall
    by_cases hlt : k < nm.length
    · have HX : Hid (nm.take (k + 1) = nm.take k ++ [nm[k]]) := List.take_succ_eq_append_getElem hlt
      have HZ : Hid (ofNm nm[k].toNat = false → isNm nm = false) := fun hx => by
        have : nm.all (fun x => ofNm x.toNat) = false := by
          rw [List.all_eq_false]
          exact ⟨nm[k], List.getElem_mem hlt, by simp [hx]⟩
        simp [isNm, this]
      have HB : Hid (({ data := nm.toArray } : ByteArray)[k].toNat = nm[k].toNat) := rfl
      go_wp2
      all_goals first
        | (go_ret; refine ⟨?_, rfl⟩; rw [HZ.out (by have hcv := HB.out; (try simp only [bne_iff_ne, ne_eq, bne_eq_false_iff_eq] at *); simp only [ofNm, Bool.or_eq_false_iff, Bool.and_eq_false_iff, decide_eq_false_iff_not]; omega)]; rfl)
        | (refine ⟨⟨k + 1, by go_num, by omega, trivial, ?_⟩, by simp [intOf]; omega⟩; rw [HX.out, List.all_append, HA.out]; have hof : ofNm nm[k].toNat = true := (by have hcv := HB.out; (try simp only [bne_iff_ne, ne_eq, bne_eq_false_iff_eq] at *); simp only [ofNm, Bool.or_eq_true, Bool.and_eq_true, decide_eq_true_eq]; omega); simpa using hof)
    · have hall := HA.out
      rw [List.take_of_length_le (by omega)] at hall
      have HE := HI.out hall
      by_cases h1 : 1 ≤ nm.length
      · by_cases h2 : nm.length ≤ 32
        · have HE2 : Hid (isNm nm = true) := by show isNm nm = true; rw [HE]; simp [h1, h2]
          clear hall HE
          go_wp2
          go_ret
          exact ⟨by rw [HE2.out]; show Ending.returned (.bool (decide ((nm.length : Int) ≤ 32))) = _; rw [decide_eq_true (by omega)], rfl⟩
        · have HE2 : Hid (isNm nm = false) := by show isNm nm = false; rw [HE]; simp [h2]
          clear hall HE
          go_wp2
          go_ret
          exact ⟨by rw [HE2.out]; show Ending.returned (.bool (decide ((nm.length : Int) ≤ 32))) = _; rw [decide_eq_false (by omega)], rfl⟩
      · have HE2 : Hid (isNm nm = false) := by show isNm nm = false; rw [HE]; simp [h1]
        clear hall HE
        go_wp2
        go_ret
        exact ⟨by rw [HE2.out]; rfl, rfl⟩
end Go.Proofs.Ytbjnhohfdpdcnaa
