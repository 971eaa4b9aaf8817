/-
  Checks of the plain kinds: the code's and the document's.
-/
import Derived.Test.YtfnnbfgfmbiababCod
namespace Go.Proofs.Ytfnnbfgfmbiabab
open Go.RowKit Go.Shelf

set_option maxRecDepth 100000 in
set_option maxHeartbeats 400000 in
theorem within_any (n a b : Int) (w : World) : Calls Try.prog 75 #[.int .i64 n, .int .i64 a, .int .i64 b] w fun e w' => e = .returned (.bool (isIn n a b)) ∧ w' = w := by
  unfold isIn
  by_cases h : a ≤ n
  · have h' : decide (a ≤ n) = true := by simpa using h
    go_enter Try.func75, Try.ntmps75
    go_wp2
    go_ret
    exact ⟨by simp [h], rfl⟩
  · have h' : decide (a ≤ n) = false := by simpa using h
    go_enter Try.func75, Try.ntmps75
    go_wp2
    go_ret
    exact ⟨by simp, rfl⟩

set_option maxRecDepth 100000 in
set_option maxHeartbeats 400000 in
theorem refWithin_any (n a b : Int) (w : World) : Calls Try.prog 44 #[.int .i64 n, .int .i64 a, .int .i64 b] w fun e w' => e = .returned (.bool (isIn n a b)) ∧ w' = w := by
  unfold isIn
  by_cases h : a ≤ n
  · have h' : decide (a ≤ n) = true := by simpa using h
    go_enter Try.func44, Try.ntmps44
    go_wp2
    go_ret
    exact ⟨by simp [h], rfl⟩
  · have h' : decide (a ≤ n) = false := by simpa using h
    go_enter Try.func44, Try.ntmps44
    go_wp2
    go_ret
    exact ⟨by simp, rfl⟩

set_option maxRecDepth 100000 in
set_option maxHeartbeats 1000000 in
theorem ckState_any (t v c : Int) (w : World) : Calls Try.prog 31 #[.agg #[], .agg #[.int .i64 t, .int .i64 v, .int .i64 c]] w fun e w' => e = .returned (.int .i64 (ckState t v c : Int)) ∧ Below w.heap.size w w' := by
  have HB : Hid (∀ o0 o1, Below w.heap.size w ((w.alloc o0).alloc o1)) := fun _ _ => (((Below.refl _ w).alloc (by simp) _).alloc (by simp) _)
  go_enter Try.func31, Try.ntmps31
  go_wp2_with ((go_at_call 75; refine (within_any _ _ _ _).mono ?_; rintro e w' ⟨rfl, hw⟩; subst w'))
  all_goals
    go_ret
    refine ⟨?_, HB.out _ _⟩
    first
    | (simp_all [ckState]; done)
    | (simp_all [ckState]; split <;> omega)

set_option maxRecDepth 100000 in
set_option maxHeartbeats 1000000 in
theorem refCkState_any (t v c : Int) (w : World) : Calls Try.prog 16 #[.agg #[.int .i64 t, .int .i64 v, .int .i64 c]] w fun e w' => e = .returned (.int .i64 (ckState t v c : Int)) ∧ Below w.heap.size w w' := by
  have HB : Hid (∀ o0, Below w.heap.size w (w.alloc o0)) := fun _ => ((Below.refl _ w).alloc (by simp) _)
  go_enter Try.func16, Try.ntmps16
  go_wp2_with ((go_at_call 44; refine (refWithin_any _ _ _ _).mono ?_; rintro e w' ⟨rfl, hw⟩; subst w'))
  all_goals
    go_ret
    refine ⟨?_, HB.out _⟩
    first
    | (simp_all [ckState]; done)
    | (simp_all [ckState]; split <;> omega)

set_option maxRecDepth 100000 in
set_option maxHeartbeats 1000000 in
theorem ckEntry_any (t i k : Int) (a : Option Addr) (n cap : Nat) (w : World) : Calls Try.prog 73 #[.agg #[], .agg #[.int .i64 t, .int .i64 i, .int .i64 k, .slice a n cap]] w fun e w' => e = .returned (.int .i64 (ckEntry t i k n : Int)) ∧ Below w.heap.size w w' := by
  have HB : Hid (∀ o0 o1, Below w.heap.size w ((w.alloc o0).alloc o1)) := fun _ _ => (((Below.refl _ w).alloc (by simp) _).alloc (by simp) _)
  go_enter Try.func73, Try.ntmps73
  go_wp2_with ((go_at_call 75; refine (within_any _ _ _ _).mono ?_; rintro e w' ⟨rfl, hw⟩; subst w'))
  all_goals
    go_ret
    refine ⟨?_, HB.out _ _⟩
    first
    | (simp_all [ckEntry]; done)
    | (simp_all [ckEntry]; split <;> omega)

set_option maxRecDepth 100000 in
set_option maxHeartbeats 1000000 in
theorem refCkEntry_any (t i k : Int) (a : Option Addr) (n cap : Nat) (w : World) : Calls Try.prog 78 #[.agg #[.int .i64 t, .int .i64 i, .int .i64 k, .slice a n cap]] w fun e w' => e = .returned (.int .i64 (ckEntry t i k n : Int)) ∧ Below w.heap.size w w' := by
  have HB : Hid (∀ o0, Below w.heap.size w (w.alloc o0)) := fun _ => ((Below.refl _ w).alloc (by simp) _)
  go_enter Try.func78, Try.ntmps78
  go_wp2_with ((go_at_call 44; refine (refWithin_any _ _ _ _).mono ?_; rintro e w' ⟨rfl, hw⟩; subst w'))
  all_goals
    go_ret
    refine ⟨?_, HB.out _⟩
    first
    | (simp_all [ckEntry]; done)
    | (simp_all [ckEntry]; split <;> omega)

set_option maxRecDepth 100000 in
set_option maxHeartbeats 1000000 in
theorem ckSnap_any (i t : Int) (a : Option Addr) (n cap : Nat) (w : World) : Calls Try.prog 93 #[.agg #[], .agg #[.int .i64 i, .int .i64 t, .slice a n cap]] w fun e w' => e = .returned (.int .i64 (ckSnap i t n : Int)) ∧ Below w.heap.size w w' := by
  have HB : Hid (∀ o0 o1 o2, Below w.heap.size w (((w.alloc o0).alloc o1).alloc o2)) := fun _ _ _ => ((((Below.refl _ w).alloc (by simp) _).alloc (by simp) _).alloc (by simp; omega) _)
  go_enter Try.func93, Try.ntmps93
  go_wp2_with (first | (go_at_call 75; refine (within_any _ _ _ _).mono ?_; rintro e w' ⟨rfl, hw⟩; subst w') | go_in)
  all_goals
    go_ret
    refine ⟨?_, HB.out _ _ _⟩
    first
    | (simp_all [ckSnap]; done)
    | (simp_all [ckSnap]; split <;> omega)

set_option maxRecDepth 100000 in
set_option maxHeartbeats 1000000 in
theorem refCkSnap_any (i t : Int) (a : Option Addr) (n cap : Nat) (w : World) : Calls Try.prog 49 #[.agg #[.int .i64 i, .int .i64 t, .slice a n cap]] w fun e w' => e = .returned (.int .i64 (ckSnap i t n : Int)) ∧ Below w.heap.size w w' := by
  have HB : Hid (∀ o0 o1, Below w.heap.size w ((w.alloc o0).alloc o1)) := fun _ _ => (((Below.refl _ w).alloc (by simp) _).alloc (by simp) _)
  go_enter Try.func49, Try.ntmps49
  go_wp2_with (first | (go_at_call 44; refine (refWithin_any _ _ _ _).mono ?_; rintro e w' ⟨rfl, hw⟩; subst w') | go_in)
  all_goals
    go_ret
    refine ⟨?_, HB.out _ _⟩
    first
    | (simp_all [ckSnap]; done)
    | (simp_all [ckSnap]; split <;> omega)

end Go.Proofs.Ytfnnbfgfmbiabab
