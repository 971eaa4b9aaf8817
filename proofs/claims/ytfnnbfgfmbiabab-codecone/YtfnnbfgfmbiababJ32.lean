/-
  RefR.
-/
import Derived.Test.YtfnnbfgfmbiababJ27
/-
  The document's look at a message's numbers and kind.
-/
namespace Go.Proofs.Ytfnnbfgfmbiabab
open Go.RowKit Go.Shelf

set_option maxRecDepth 100000 in
set_option maxHeartbeats 8000000 in
theorem refRangeNo_any (kd fr to tm ix lt cm hi cx : Int) (rj : Bool) (ea : Option Addr) (en ec : Nat) (si st : Int) (sa : Option Addr) (sn sc : Nat) (w : World) (hK : isIn kd 1 7 = true) (hR : msgRange fr to tm ix lt cm hi cx = false) : Calls Try.prog 19 #[.agg #[.int .i64 kd, .int .i64 fr, .int .i64 to, .int .i64 tm, .int .i64 ix, .int .i64 lt, .int .i64 cm, .int .i64 hi, .int .i64 cx, .bool rj, .slice ea en ec, .int .i64 si, .int .i64 st, .slice sa sn sc]] w fun e w' => e = .returned (.int .i64 1) ∧ Below w.heap.size w w' := by
  have HB : Hid (∀ o0, Below w.heap.size w (w.alloc o0)) := fun _ => ((Below.refl _ w).alloc (by simp) _)
  by_cases g0 : isIn fr 1 7 = true
  case neg =>
    simp only [Bool.not_eq_true] at g0
    go_enter Try.func19, Try.ntmps19
    go_wp2_with (first
      | (go_at_call 44; refine (refWithin_any _ _ _ _).mono ?_; rintro e w' ⟨rfl, hw⟩; subst w'; (try (first | rw [hK] | rw [g0])))
      | (go_at_call 46; refine (number_any _ _).mono ?_; rintro e w' ⟨rfl, hw⟩; subst w'; (try (first | rw [hK] | rw [g0]))))
    all_goals
      go_returns
      exact ⟨rfl, HB.out _⟩
  by_cases g1 : isIn to 1 7 = true
  case neg =>
    simp only [Bool.not_eq_true] at g1
    go_enter Try.func19, Try.ntmps19
    go_wp2_with (first
      | (go_at_call 44; refine (refWithin_any _ _ _ _).mono ?_; rintro e w' ⟨rfl, hw⟩; subst w'; (try (first | rw [hK] | rw [g0] | rw [g1])))
      | (go_at_call 46; refine (number_any _ _).mono ?_; rintro e w' ⟨rfl, hw⟩; subst w'; (try (first | rw [hK] | rw [g0] | rw [g1]))))
    all_goals
      go_returns
      exact ⟨rfl, HB.out _⟩
  by_cases g2 : isIn tm 1 4611686018427387904 = true
  case neg =>
    simp only [Bool.not_eq_true] at g2
    go_enter Try.func19, Try.ntmps19
    go_wp2_with (first
      | (go_at_call 44; refine (refWithin_any _ _ _ _).mono ?_; rintro e w' ⟨rfl, hw⟩; subst w'; (try (first | rw [hK] | rw [g0] | rw [g1] | rw [g2])))
      | (go_at_call 46; refine (number_any _ _).mono ?_; rintro e w' ⟨rfl, hw⟩; subst w'; (try (first | rw [hK] | rw [g0] | rw [g1] | rw [g2]))))
    all_goals
      go_returns
      exact ⟨rfl, HB.out _⟩
  by_cases g3 : isIn ix 0 4611686018427387904 = true
  case neg =>
    simp only [Bool.not_eq_true] at g3
    go_enter Try.func19, Try.ntmps19
    go_wp2_with (first
      | (go_at_call 44; refine (refWithin_any _ _ _ _).mono ?_; rintro e w' ⟨rfl, hw⟩; subst w'; (try (first | rw [hK] | rw [g0] | rw [g1] | rw [g2] | rw [g3])))
      | (go_at_call 46; refine (number_any _ _).mono ?_; rintro e w' ⟨rfl, hw⟩; subst w'; (try (first | rw [hK] | rw [g0] | rw [g1] | rw [g2] | rw [g3]))))
    all_goals
      go_returns
      exact ⟨rfl, HB.out _⟩
  by_cases g4 : isIn lt 0 4611686018427387904 = true
  case neg =>
    simp only [Bool.not_eq_true] at g4
    go_enter Try.func19, Try.ntmps19
    go_wp2_with (first
      | (go_at_call 44; refine (refWithin_any _ _ _ _).mono ?_; rintro e w' ⟨rfl, hw⟩; subst w'; (try (first | rw [hK] | rw [g0] | rw [g1] | rw [g2] | rw [g3] | rw [g4])))
      | (go_at_call 46; refine (number_any _ _).mono ?_; rintro e w' ⟨rfl, hw⟩; subst w'; (try (first | rw [hK] | rw [g0] | rw [g1] | rw [g2] | rw [g3] | rw [g4]))))
    all_goals
      go_returns
      exact ⟨rfl, HB.out _⟩
  by_cases g5 : isIn cm 0 4611686018427387904 = true
  case neg =>
    simp only [Bool.not_eq_true] at g5
    go_enter Try.func19, Try.ntmps19
    go_wp2_with (first
      | (go_at_call 44; refine (refWithin_any _ _ _ _).mono ?_; rintro e w' ⟨rfl, hw⟩; subst w'; (try (first | rw [hK] | rw [g0] | rw [g1] | rw [g2] | rw [g3] | rw [g4] | rw [g5])))
      | (go_at_call 46; refine (number_any _ _).mono ?_; rintro e w' ⟨rfl, hw⟩; subst w'; (try (first | rw [hK] | rw [g0] | rw [g1] | rw [g2] | rw [g3] | rw [g4] | rw [g5]))))
    all_goals
      go_returns
      exact ⟨rfl, HB.out _⟩
  by_cases g6 : isIn hi 0 4611686018427387904 = true
  case neg =>
    simp only [Bool.not_eq_true] at g6
    go_enter Try.func19, Try.ntmps19
    go_wp2_with (first
      | (go_at_call 44; refine (refWithin_any _ _ _ _).mono ?_; rintro e w' ⟨rfl, hw⟩; subst w'; (try (first | rw [hK] | rw [g0] | rw [g1] | rw [g2] | rw [g3] | rw [g4] | rw [g5] | rw [g6])))
      | (go_at_call 46; refine (number_any _ _).mono ?_; rintro e w' ⟨rfl, hw⟩; subst w'; (try (first | rw [hK] | rw [g0] | rw [g1] | rw [g2] | rw [g3] | rw [g4] | rw [g5] | rw [g6]))))
    all_goals
      go_returns
      exact ⟨rfl, HB.out _⟩
  by_cases g7 : isIn cx 0 4611686018427387904 = true
  case neg =>
    simp only [Bool.not_eq_true] at g7
    go_enter Try.func19, Try.ntmps19
    go_wp2_with (first
      | (go_at_call 44; refine (refWithin_any _ _ _ _).mono ?_; rintro e w' ⟨rfl, hw⟩; subst w'; (try (first | rw [hK] | rw [g0] | rw [g1] | rw [g2] | rw [g3] | rw [g4] | rw [g5] | rw [g6] | rw [g7])))
      | (go_at_call 46; refine (number_any _ _).mono ?_; rintro e w' ⟨rfl, hw⟩; subst w'; (try (first | rw [hK] | rw [g0] | rw [g1] | rw [g2] | rw [g3] | rw [g4] | rw [g5] | rw [g6] | rw [g7]))))
    all_goals
      go_returns
      exact ⟨rfl, HB.out _⟩
  exfalso
  simp [msgRange, g0, g1, g2, g3, g4, g5, g6, g7] at hR

set_option maxRecDepth 100000 in
set_option maxHeartbeats 8000000 in
theorem refKindNo_any (kd fr to tm ix lt cm hi cx : Int) (rj : Bool) (ea : Option Addr) (en ec : Nat) (si st : Int) (sa : Option Addr) (sn sc : Nat) (w : World) (hK : isIn kd 1 7 = false) : Calls Try.prog 19 #[.agg #[.int .i64 kd, .int .i64 fr, .int .i64 to, .int .i64 tm, .int .i64 ix, .int .i64 lt, .int .i64 cm, .int .i64 hi, .int .i64 cx, .bool rj, .slice ea en ec, .int .i64 si, .int .i64 st, .slice sa sn sc]] w fun e w' => e = .returned (.int .i64 6) ∧ Below w.heap.size w w' := by
  have HB : Hid (∀ o0, Below w.heap.size w (w.alloc o0)) := fun _ => ((Below.refl _ w).alloc (by simp) _)
  go_enter Try.func19, Try.ntmps19
  go_wp2_with (go_at_call 44; refine (refWithin_any _ _ _ _).mono ?_; rintro e w' ⟨rfl, hw⟩; subst w'; simp only [hK])
  go_returns
  exact ⟨rfl, HB.out _⟩

set_option maxRecDepth 100000 in
set_option maxHeartbeats 8000000 in
theorem chkKindNo_any (kd fr to tm ix lt cm hi cx : Int) (rj : Bool) (ea : Option Addr) (en ec : Nat) (si st : Int) (sa : Option Addr) (sn sc : Nat) (w : World) (hK : isIn kd 1 7 = false) : Calls Try.prog 24 #[.agg #[], .agg #[.int .i64 kd, .int .i64 fr, .int .i64 to, .int .i64 tm, .int .i64 ix, .int .i64 lt, .int .i64 cm, .int .i64 hi, .int .i64 cx, .bool rj, .slice ea en ec, .int .i64 si, .int .i64 st, .slice sa sn sc]] w fun e w' => e = .returned (.int .i64 6) ∧ Below w.heap.size w w' := by
  have HB : Hid (∀ o0 o1, Below w.heap.size w ((w.alloc o0).alloc o1)) := fun _ _ => (((Below.refl _ w).alloc (by simp) _).alloc (by simp) _)
  go_enter Try.func24, Try.ntmps24
  go_wp2_with (go_at_call 57; refine (isKind_any _ _).mono ?_; rintro e w' ⟨rfl, hw⟩; subst w'; simp only [hK])
  go_returns
  exact ⟨rfl, HB.out _ _⟩

end Go.Proofs.Ytfnnbfgfmbiabab

