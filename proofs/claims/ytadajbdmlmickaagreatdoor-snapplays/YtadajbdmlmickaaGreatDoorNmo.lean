/-
  The name of a snapshot: the program's.
-/
import Derived.Test.YtadajbdmlmickaaGreatDoorNam
namespace Go.Proofs.YtadajbdmlmickaaGreatDoor
open Go.RowKit Go.Shelf
set_option linter.unusedVariables false

set_option maxRecDepth 100000 in
set_option maxHeartbeats 400000 in
theorem nameOf_any (n : Nat) (h2 : n ≤ 4611686018427387904) (w : World) (hv : Vars w) : Calls Tryz.prog 53 #[.int .i64 (n : Int)] w fun e w' => e = .returned (.string ⟨(nmL n).toArray⟩) ∧ Below w.heap.size w w' := by
  have hit := itoa_any n h2 w hv
  have hlt : n < 10 ^ 19 := by simp only [Nat.reducePow]; omega
  have hnd : Lib.nDigits n ≤ 18 + 1 := nDigits_le 18 n hlt
  have hdl : (Lib.decDigits n).length = Lib.nDigits n := Lib.decDigits_length n
  have hlo : low (18 + 1) n = List.replicate (18 + 1 - Lib.nDigits n) 48 ++ Lib.decDigits n := low_eq hlt
  have HN : nmL n = [115, 110, 97, 112, 45] ++ (List.replicate (18 + 1 - Lib.nDigits n) 48 ++ Lib.decDigits n) := by unfold nmL; rw [← hlo]
  rw [HN]
  obtain ⟨c, hc⟩ : ∃ c, 18 + 1 - Lib.nDigits n = c := ⟨_, rfl⟩
  rw [hc]
  clear HN hlo hlt hv
  obtain ⟨dd, hdd⟩ : ∃ dd, Lib.decDigits n = dd := ⟨_, rfl⟩
  rw [hdd] at hit hdl ⊢
  clear hdd
  obtain ⟨nd, hn⟩ : ∃ nd, Lib.nDigits n = nd := ⟨_, rfl⟩
  rw [hn] at hnd hdl hc
  clear hn
  have hw : IntKind.i64.wrap (19 - (dd.length : Int)) = (c : Int) := by rw [IntKind.wrap_i64]; omega
  have hc9 : c ≤ 100 := by omega
  have hdl9 : dd.length ≤ 100 := by omega
  have hrep := fun w1 => repeat_any c hc9 w1
  have HR : Hid (c ≤ 100 ∧ dd.length ≤ 100) := ⟨hc9, hdl9⟩
  clear h2 hnd hc hdl hc9 hdl9
  go_enter Tryz.func53, Tryz.ntmps53
  go_wp2_with (first
    | (go_at_call 91; refine hit.mono ?_; rintro e w1 ⟨rfl, hB1⟩)
    | (go_at_call 92; refine (hrep w1).mono ?_; rintro e w2 ⟨rfl, hB2⟩)
    | fail)
  all_goals first
    | (exfalso; have := HR.out; omega)
    | skip
  go_ret
  refine ⟨?_, hB1.trans (hB2.mono hB1.size)⟩
  show Ending.returned (Value.string _) = _
  congr 2
theorem name_any (n : Int) (hs : -9223372036854775808 ≤ n ∧ n ≤ 9223372036854775807) (w : World) (hv : Vars w) : Calls Tryz.prog 20 #[.int .i64 n] w fun e w' => e = .returned (if 1 ≤ n ∧ n ≤ 4611686018427387904 then .tuple #[.string ⟨(nmL n.toNat).toArray⟩, .int .i64 0] else .tuple #[.string ⟨#[]⟩, .int .i64 1]) ∧ Below w.heap.size w w' := by
  by_cases h1 : 1 ≤ n
  · by_cases h2 : n ≤ 4611686018427387904
    · rw [if_pos ⟨h1, h2⟩]
      obtain ⟨k, rfl⟩ : ∃ k : Nat, n = (k : Int) := ⟨n.toNat, by omega⟩
      have hno := nameOf_any k (by omega) w hv
      rw [Int.toNat_natCast]
      have d1 : decide ((k : Int) < 1) = false := by simp; omega
      have d2 : decide ((k : Int) > 4611686018427387904) = false := by simp; omega
      clear hs h1 h2
      go_enter Tryz.func20, Tryz.ntmps20
      go_wp2_with (first
        | (go_at_call 53; refine hno.mono ?_; rintro e w1 ⟨rfl, hB1⟩)
        | fail)
      go_ret2
      exact ⟨rfl, hB1⟩
    · rw [if_neg (by omega)]
      have d1 : decide (n < 1) = false := by simp; omega
      have d2 : decide (n > 4611686018427387904) = true := by simp; omega
      clear hs h1 h2
      go_enter Tryz.func20, Tryz.ntmps20
      go_wp2
      go_ret2
      exact ⟨rfl, Below.refl _ _⟩
  · rw [if_neg (by omega)]
    have d1 : decide (n < 1) = true := by simp; omega
    clear hs h1
    go_enter Tryz.func20, Tryz.ntmps20
    go_wp2
    go_ret2
    exact ⟨rfl, Below.refl _ _⟩
end Go.Proofs.YtadajbdmlmickaaGreatDoor
