/-
  Messages: their numbers in range.
-/
import Derived.Test.YtfnnbfgfmbiababMsgA
namespace Go.Proofs.Ytfnnbfgfmbiabab
open Go.RowKit Go.Shelf

theorem info3 : (Try.prog.info? 3).map (fun i => (i.zero, i.size, i.bytes)) = some (some (.int .i64 0), 1, 8) := by kernel_rfl
theorem run_index5 (w : World) (a b c d e : Value) (k : Nat) (hk : k < 5) (v : Value) (hv : #[a, b, c, d, e][k]? = some v) : (Instr.index 146 (.agg #[a, b, c, d, e]) (.int .i64 (k : Int))).run Try.prog w = .ok v w := by
  obtain ⟨i0, hi, hz0, hz1, hz2⟩ := info_parts info3
  have hv' : [a, b, c, d, e][k]? = some v := by simpa using hv
  simp [Instr.index, asIntOf, run_underlying Try.underlying146, sizeOf, typeInfo, hi, hz1, part, go_sem]
  rw [if_pos hk, hv']
  rfl

set_option maxRecDepth 100000 in
set_option maxHeartbeats 8000000 in
theorem inRange_any (kd fr to tm ix lt cm hi cx : Int) (rj : Bool) (ea : Option Addr) (en ec : Nat) (si st : Int) (sa : Option Addr) (sn sc : Nat) (w : World) : Calls Try.prog 58 #[.agg #[.int .i64 kd, .int .i64 fr, .int .i64 to, .int .i64 tm, .int .i64 ix, .int .i64 lt, .int .i64 cm, .int .i64 hi, .int .i64 cx, .bool rj, .slice ea en ec, .int .i64 si, .int .i64 st, .slice sa sn sc]] w fun e w' => e = .returned (.bool (msgRange fr to tm ix lt cm hi cx)) ∧ Below w.heap.size w w' := by
  have HB : Hid (∀ o0, Below w.heap.size w (w.alloc o0)) := fun _ => ((Below.refl _ w).alloc (by simp) _)
  by_cases h1 : isIn fr 1 7 = true
  · by_cases h2 : isIn to 1 7 = true
    · by_cases h3 : isIn tm 1 4611686018427387904 = true
      · have e0 : msgRange fr to tm ix lt cm hi cx = (isIn ix 0 4611686018427387904 && isIn lt 0 4611686018427387904 && isIn cm 0 4611686018427387904 && isIn hi 0 4611686018427387904 && isIn cx 0 4611686018427387904) := by simp [msgRange, h1, h2, h3]
        rw [e0]; clear e0
        have q0 : ∀ w', (Instr.index 146 (.agg #[.int .i64 ix, .int .i64 lt, .int .i64 cm, .int .i64 hi, .int .i64 cx]) (.int .i64 0)).run Try.prog w' = .ok (.int .i64 ix) w' := fun w' => run_index5 w' _ _ _ _ _ 0 (by omega) _ rfl
        have q1 : ∀ w', (Instr.index 146 (.agg #[.int .i64 ix, .int .i64 lt, .int .i64 cm, .int .i64 hi, .int .i64 cx]) (.int .i64 1)).run Try.prog w' = .ok (.int .i64 lt) w' := fun w' => run_index5 w' _ _ _ _ _ 1 (by omega) _ rfl
        have q2 : ∀ w', (Instr.index 146 (.agg #[.int .i64 ix, .int .i64 lt, .int .i64 cm, .int .i64 hi, .int .i64 cx]) (.int .i64 2)).run Try.prog w' = .ok (.int .i64 cm) w' := fun w' => run_index5 w' _ _ _ _ _ 2 (by omega) _ rfl
        have q3 : ∀ w', (Instr.index 146 (.agg #[.int .i64 ix, .int .i64 lt, .int .i64 cm, .int .i64 hi, .int .i64 cx]) (.int .i64 3)).run Try.prog w' = .ok (.int .i64 hi) w' := fun w' => run_index5 w' _ _ _ _ _ 3 (by omega) _ rfl
        have q4 : ∀ w', (Instr.index 146 (.agg #[.int .i64 ix, .int .i64 lt, .int .i64 cm, .int .i64 hi, .int .i64 cx]) (.int .i64 4)).run Try.prog w' = .ok (.int .i64 cx) w' := fun w' => run_index5 w' _ _ _ _ _ 4 (by omega) _ rfl
        go_enter Try.func58, Try.ntmps58
        go_wp2_with (go_at_call 75; refine (within_any _ _ _ _).mono ?_; rintro e w' ⟨rfl, hw⟩; subst w'; simp only [h1, h2, h3])
        clear h1 h2 h3
        refine wp_loop_rounds 6 ?_
        rw [rounds_succ]
        by_cases g0 : isIn ix 0 4611686018427387904 = true
        case neg =>
          simp only [Bool.not_eq_true] at g0
          go_wp2_with (go_at_call 75; refine (within_any _ _ _ _).mono ?_; rintro e w' ⟨rfl, hw⟩; subst w'; simp only [g0])
          go_returns
          exact ⟨by simp [g0], HB.out _⟩
        go_wp2_with (go_at_call 75; refine (within_any _ _ _ _).mono ?_; rintro e w' ⟨rfl, hw⟩; subst w'; simp only [g0])
        rw [rounds_succ]
        by_cases g1 : isIn lt 0 4611686018427387904 = true
        case neg =>
          simp only [Bool.not_eq_true] at g1
          go_wp2_with (go_at_call 75; refine (within_any _ _ _ _).mono ?_; rintro e w' ⟨rfl, hw⟩; subst w'; simp only [g1])
          go_returns
          exact ⟨by simp [g0, g1], HB.out _⟩
        go_wp2_with (go_at_call 75; refine (within_any _ _ _ _).mono ?_; rintro e w' ⟨rfl, hw⟩; subst w'; simp only [g1])
        rw [rounds_succ]
        by_cases g2 : isIn cm 0 4611686018427387904 = true
        case neg =>
          simp only [Bool.not_eq_true] at g2
          go_wp2_with (go_at_call 75; refine (within_any _ _ _ _).mono ?_; rintro e w' ⟨rfl, hw⟩; subst w'; simp only [g2])
          go_returns
          exact ⟨by simp [g0, g1, g2], HB.out _⟩
        go_wp2_with (go_at_call 75; refine (within_any _ _ _ _).mono ?_; rintro e w' ⟨rfl, hw⟩; subst w'; simp only [g2])
        rw [rounds_succ]
        by_cases g3 : isIn hi 0 4611686018427387904 = true
        case neg =>
          simp only [Bool.not_eq_true] at g3
          go_wp2_with (go_at_call 75; refine (within_any _ _ _ _).mono ?_; rintro e w' ⟨rfl, hw⟩; subst w'; simp only [g3])
          go_returns
          exact ⟨by simp [g0, g1, g2, g3], HB.out _⟩
        go_wp2_with (go_at_call 75; refine (within_any _ _ _ _).mono ?_; rintro e w' ⟨rfl, hw⟩; subst w'; simp only [g3])
        rw [rounds_succ]
        by_cases g4 : isIn cx 0 4611686018427387904 = true
        case neg =>
          simp only [Bool.not_eq_true] at g4
          go_wp2_with (go_at_call 75; refine (within_any _ _ _ _).mono ?_; rintro e w' ⟨rfl, hw⟩; subst w'; simp only [g4])
          go_returns
          exact ⟨by simp [g0, g1, g2, g3, g4], HB.out _⟩
        go_wp2_with (go_at_call 75; refine (within_any _ _ _ _).mono ?_; rintro e w' ⟨rfl, hw⟩; subst w'; simp only [g4])
        rw [rounds_succ]
        go_wp2
        go_returns
        exact ⟨by simp [g0, g1, g2, g3, g4], HB.out _⟩
      · have e0 : msgRange fr to tm ix lt cm hi cx = false := by simp [msgRange, h3]
        rw [e0]; clear e0
        simp only [Bool.not_eq_true] at h3
        go_enter Try.func58, Try.ntmps58
        go_wp2_with (go_at_call 75; refine (within_any _ _ _ _).mono ?_; rintro e w' ⟨rfl, hw⟩; subst w'; simp only [h1, h2, h3])
        go_returns
        exact ⟨rfl, HB.out _⟩
    · have e0 : msgRange fr to tm ix lt cm hi cx = false := by simp [msgRange, h2]
      rw [e0]; clear e0
      simp only [Bool.not_eq_true] at h2
      go_enter Try.func58, Try.ntmps58
      go_wp2_with (go_at_call 75; refine (within_any _ _ _ _).mono ?_; rintro e w' ⟨rfl, hw⟩; subst w'; simp only [h1, h2])
      go_returns
      exact ⟨rfl, HB.out _⟩
  · have e0 : msgRange fr to tm ix lt cm hi cx = false := by simp [msgRange, h1]
    rw [e0]; clear e0
    simp only [Bool.not_eq_true] at h1
    go_enter Try.func58, Try.ntmps58
    go_wp2_with (go_at_call 75; refine (within_any _ _ _ _).mono ?_; rintro e w' ⟨rfl, hw⟩; subst w'; simp only [h1])
    go_returns
    exact ⟨rfl, HB.out _⟩
end Go.Proofs.Ytfnnbfgfmbiabab
