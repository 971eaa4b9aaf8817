/-
  Checks of the plain kinds: the code's and the document's.
-/
import Derived.Test.YtfnnbfgfmbiabaaCod
namespace Go.Proofs.Ytfnnbfgfmbiabaa
open Go.RowKit Go.Shelf

set_option maxRecDepth 100000 in
set_option maxHeartbeats 400000 in
theorem within_any (n a b : Int) (w : World) : Calls Try.prog 61 #[.int .i64 n, .int .i64 a, .int .i64 b] w fun e w' => e = .returned (.bool (isIn n a b)) ∧ w' = w := by
  unfold isIn
  by_cases h : a ≤ n
  · have h' : decide (a ≤ n) = true := by simpa using h
    go_enter Try.func61, Try.ntmps61
    go_wp2
    go_ret
    exact ⟨by simp [h], rfl⟩
  · have h' : decide (a ≤ n) = false := by simpa using h
    go_enter Try.func61, Try.ntmps61
    go_wp2
    go_ret
    exact ⟨by simp, rfl⟩

set_option maxRecDepth 100000 in
set_option maxHeartbeats 400000 in
theorem refWithin_any (n a b : Int) (w : World) : Calls Try.prog 62 #[.int .i64 n, .int .i64 a, .int .i64 b] w fun e w' => e = .returned (.bool (isIn n a b)) ∧ w' = w := by
  unfold isIn
  by_cases h : a ≤ n
  · have h' : decide (a ≤ n) = true := by simpa using h
    go_enter Try.func62, Try.ntmps62
    go_wp2
    go_ret
    exact ⟨by simp [h], rfl⟩
  · have h' : decide (a ≤ n) = false := by simpa using h
    go_enter Try.func62, Try.ntmps62
    go_wp2
    go_ret
    exact ⟨by simp, rfl⟩

set_option maxRecDepth 100000 in
set_option maxHeartbeats 1000000 in
theorem ckState_any (t v c : Int) (w : World) : Calls Try.prog 23 #[.agg #[], .agg #[.int .i64 t, .int .i64 v, .int .i64 c]] w fun e w' => e = .returned (.int .i64 (ckState t v c : Int)) ∧ Below w.heap.size w w' := by
  have HB : Hid (∀ o0 o1, Below w.heap.size w ((w.alloc o0).alloc o1)) := fun _ _ => (((Below.refl _ w).alloc (by simp) _).alloc (by simp) _)
  go_enter Try.func23, Try.ntmps23
  go_wp2_with ((go_at_call 61; refine (within_any _ _ _ _).mono ?_; rintro e w' ⟨rfl, hw⟩; subst w'))
  all_goals
    go_ret
    refine ⟨?_, HB.out _ _⟩
    first
    | (simp_all [ckState]; done)
    | (simp_all [ckState]; split <;> omega)

set_option maxRecDepth 100000 in
set_option maxHeartbeats 1000000 in
theorem refCkState_any (t v c : Int) (w : World) : Calls Try.prog 24 #[.agg #[.int .i64 t, .int .i64 v, .int .i64 c]] w fun e w' => e = .returned (.int .i64 (ckState t v c : Int)) ∧ Below w.heap.size w w' := by
  have HB : Hid (∀ o0, Below w.heap.size w (w.alloc o0)) := fun _ => ((Below.refl _ w).alloc (by simp) _)
  go_enter Try.func24, Try.ntmps24
  go_wp2_with ((go_at_call 62; refine (refWithin_any _ _ _ _).mono ?_; rintro e w' ⟨rfl, hw⟩; subst w'))
  all_goals
    go_ret
    refine ⟨?_, HB.out _⟩
    first
    | (simp_all [ckState]; done)
    | (simp_all [ckState]; split <;> omega)

set_option maxRecDepth 100000 in
set_option maxHeartbeats 1000000 in
theorem ckReply_any (c : Int) (m : List UInt8) (w : World) : Calls Try.prog 42 #[.agg #[], .agg #[.int .i64 c, .string ⟨m.toArray⟩]] w fun e w' => e = .returned (.int .i64 (ckReply c m.length : Int)) ∧ Below w.heap.size w w' := by
  have HB : Hid (∀ o0 o1, Below w.heap.size w ((w.alloc o0).alloc o1)) := fun _ _ => (((Below.refl _ w).alloc (by simp) _).alloc (by simp) _)
  have hsm : (⟨m.toArray⟩ : ByteArray).size = m.length := by simp [ByteArray.size]
  go_enter Try.func42, Try.ntmps42
  go_wp2_with ((go_at_call 61; refine (within_any _ _ _ _).mono ?_; rintro e w' ⟨rfl, hw⟩; subst w'))
  all_goals
    go_ret
    refine ⟨?_, HB.out _ _⟩
    first
    | (simp_all [ckReply]; done)
    | (simp_all [ckReply]; split <;> omega)

set_option maxRecDepth 100000 in
set_option maxHeartbeats 1000000 in
theorem refCkReply_any (c : Int) (m : List UInt8) (w : World) : Calls Try.prog 43 #[.agg #[.int .i64 c, .string ⟨m.toArray⟩]] w fun e w' => e = .returned (.int .i64 (ckReply c m.length : Int)) ∧ Below w.heap.size w w' := by
  have HB : Hid (∀ o0, Below w.heap.size w (w.alloc o0)) := fun _ => ((Below.refl _ w).alloc (by simp) _)
  have hsm : (⟨m.toArray⟩ : ByteArray).size = m.length := by simp [ByteArray.size]
  go_enter Try.func43, Try.ntmps43
  go_wp2_with ((go_at_call 62; refine (refWithin_any _ _ _ _).mono ?_; rintro e w' ⟨rfl, hw⟩; subst w'))
  all_goals
    go_ret
    refine ⟨?_, HB.out _⟩
    first
    | (simp_all [ckReply]; done)
    | (simp_all [ckReply]; split <;> omega)

set_option maxRecDepth 100000 in
set_option maxHeartbeats 1000000 in
theorem ckEntry_any (t i k : Int) (a : Option Addr) (n cap : Nat) (w : World) : Calls Try.prog 14 #[.agg #[], .agg #[.int .i64 t, .int .i64 i, .int .i64 k, .slice a n cap]] w fun e w' => e = .returned (.int .i64 (ckEntry t i k n : Int)) ∧ Below w.heap.size w w' := by
  have HB : Hid (∀ o0 o1, Below w.heap.size w ((w.alloc o0).alloc o1)) := fun _ _ => (((Below.refl _ w).alloc (by simp) _).alloc (by simp) _)
  go_enter Try.func14, Try.ntmps14
  go_wp2_with ((go_at_call 61; refine (within_any _ _ _ _).mono ?_; rintro e w' ⟨rfl, hw⟩; subst w'))
  all_goals
    go_ret
    refine ⟨?_, HB.out _ _⟩
    first
    | (simp_all [ckEntry]; done)
    | (simp_all [ckEntry]; split <;> omega)

set_option maxRecDepth 100000 in
set_option maxHeartbeats 1000000 in
theorem refCkEntry_any (t i k : Int) (a : Option Addr) (n cap : Nat) (w : World) : Calls Try.prog 15 #[.agg #[.int .i64 t, .int .i64 i, .int .i64 k, .slice a n cap]] w fun e w' => e = .returned (.int .i64 (ckEntry t i k n : Int)) ∧ Below w.heap.size w w' := by
  have HB : Hid (∀ o0, Below w.heap.size w (w.alloc o0)) := fun _ => ((Below.refl _ w).alloc (by simp) _)
  go_enter Try.func15, Try.ntmps15
  go_wp2_with ((go_at_call 62; refine (refWithin_any _ _ _ _).mono ?_; rintro e w' ⟨rfl, hw⟩; subst w'))
  all_goals
    go_ret
    refine ⟨?_, HB.out _⟩
    first
    | (simp_all [ckEntry]; done)
    | (simp_all [ckEntry]; split <;> omega)

set_option maxRecDepth 100000 in
set_option maxHeartbeats 1000000 in
theorem ckSnap_any (i t : Int) (a : Option Addr) (n cap : Nat) (w : World) : Calls Try.prog 29 #[.agg #[], .agg #[.int .i64 i, .int .i64 t, .slice a n cap]] w fun e w' => e = .returned (.int .i64 (ckSnap i t n : Int)) ∧ Below w.heap.size w w' := by
  have HB : Hid (∀ o0 o1 o2, Below w.heap.size w (((w.alloc o0).alloc o1).alloc o2)) := fun _ _ _ => ((((Below.refl _ w).alloc (by simp) _).alloc (by simp) _).alloc (by simp; omega) _)
  go_enter Try.func29, Try.ntmps29
  go_wp2_with (first | (go_at_call 61; refine (within_any _ _ _ _).mono ?_; rintro e w' ⟨rfl, hw⟩; subst w') | go_in)
  all_goals
    go_ret
    refine ⟨?_, HB.out _ _ _⟩
    first
    | (simp_all [ckSnap]; done)
    | (simp_all [ckSnap]; split <;> omega)

set_option maxRecDepth 100000 in
set_option maxHeartbeats 1000000 in
theorem refCkSnap_any (i t : Int) (a : Option Addr) (n cap : Nat) (w : World) : Calls Try.prog 30 #[.agg #[.int .i64 i, .int .i64 t, .slice a n cap]] w fun e w' => e = .returned (.int .i64 (ckSnap i t n : Int)) ∧ Below w.heap.size w w' := by
  have HB : Hid (∀ o0 o1, Below w.heap.size w ((w.alloc o0).alloc o1)) := fun _ _ => (((Below.refl _ w).alloc (by simp) _).alloc (by simp) _)
  go_enter Try.func30, Try.ntmps30
  go_wp2_with (first | (go_at_call 62; refine (refWithin_any _ _ _ _).mono ?_; rintro e w' ⟨rfl, hw⟩; subst w') | go_in)
  all_goals
    go_ret
    refine ⟨?_, HB.out _ _⟩
    first
    | (simp_all [ckSnap]; done)
    | (simp_all [ckSnap]; split <;> omega)

end Go.Proofs.Ytfnnbfgfmbiabaa
