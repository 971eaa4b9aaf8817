/-
  Messages: what each of their parts may be: the code's small functions.
-/
import Derived.Test.YtfnnbfgfmbiababGetB
import Derived.Handy
namespace Go.Proofs.Ytfnnbfgfmbiabab
open Go.RowKit Go.Shelf

theorem natz (n : Nat) : ((n : Int) == 0) = (n == 0) := by rw [Bool.eq_iff_iff]; simp

/-- Are a message's numbers in range? -/
def msgRange (fr to tm ix lt cm hi cx : Int) : Bool :=
  isIn fr 1 7 && isIn to 1 7 && isIn tm 1 4611686018427387904 && isIn ix 0 4611686018427387904 && isIn lt 0 4611686018427387904 && isIn cm 0 4611686018427387904 && isIn hi 0 4611686018427387904 && isIn cx 0 4611686018427387904

/-- Is nothing said beside what every message says? -/
def blank (ix lt cm hi cx : Int) (rj : Bool) (en : Nat) (si st : Int) (sn : Nat) : Bool :=
  (ix == 0) && (lt == 0) && (cm == 0) && (hi == 0) && (cx == 0) && !rj && (en == 0) && ((si == 0) && (st == 0) && (sn == 0))

set_option maxRecDepth 100000 in
set_option maxHeartbeats 8000000 in
theorem isKind_any (n : Int) (w : World) : Calls Try.prog 57 #[.int .i64 n] w fun e w' => e = .returned (.bool (isIn n 1 7)) ∧ w' = w := by
  go_enter Try.func57, Try.ntmps57
  go_wp2_with (go_at_call 75; refine (within_any _ _ _ _).mono ?_; rintro e w' ⟨rfl, hw⟩; subst w')
  go_ret
  exact ⟨rfl, rfl⟩

/-- The error of a wrong form. -/
def fI (b : Bool) : Nat := if b then 4 else 0

set_option maxRecDepth 100000 in
set_option maxHeartbeats 8000000 in
theorem formIf_any (b : Bool) (w : World) : Calls Try.prog 62 #[.bool b] w fun e w' => e = .returned (.int .i64 (fI b : Int)) ∧ w' = w := by
  cases b
  all_goals
    go_enter Try.func62, Try.ntmps62
    go_wp2
    go_ret
    exact ⟨rfl, rfl⟩

set_option maxRecDepth 100000 in
set_option maxHeartbeats 8000000 in
theorem isNone_any (si st : Int) (sa : Option Addr) (sn sc : Nat) (w : World) : Calls Try.prog 91 #[.agg #[.int .i64 si, .int .i64 st, .slice sa sn sc]] w fun e w' => e = .returned (.bool ((si == 0) && (st == 0) && (sn == 0))) ∧ Below w.heap.size w w' := by
  have HB : Hid (∀ o0, Below w.heap.size w (w.alloc o0)) := fun _ => ((Below.refl _ w).alloc (by simp) _)
  go_enter Try.func91, Try.ntmps91
  go_wp2
  all_goals
    go_ret
    refine ⟨?_, HB.out _⟩
    simp_all [natz]

set_option maxRecDepth 100000 in
set_option maxHeartbeats 8000000 in
theorem isPlace_any (kd fr to tm ix lt cm hi cx : Int) (rj : Bool) (ea : Option Addr) (en ec : Nat) (si st : Int) (sa : Option Addr) (sn sc : Nat) (w : World) : Calls Try.prog 63 #[.agg #[.int .i64 kd, .int .i64 fr, .int .i64 to, .int .i64 tm, .int .i64 ix, .int .i64 lt, .int .i64 cm, .int .i64 hi, .int .i64 cx, .bool rj, .slice ea en ec, .int .i64 si, .int .i64 st, .slice sa sn sc]] w fun e w' => e = .returned (.bool ((ix == 0) == (lt == 0))) ∧ Below w.heap.size w w' := by
  have HB : Hid (∀ o0, Below w.heap.size w (w.alloc o0)) := fun _ => ((Below.refl _ w).alloc (by simp) _)
  go_enter Try.func63, Try.ntmps63
  go_wp2
  all_goals
    go_ret
    refine ⟨?_, HB.out _⟩
    simp_all

set_option maxRecDepth 100000 in
set_option maxHeartbeats 8000000 in
theorem isBlank_any (kd fr to tm ix lt cm hi cx : Int) (rj : Bool) (ea : Option Addr) (en ec : Nat) (si st : Int) (sa : Option Addr) (sn sc : Nat) (w : World) : Calls Try.prog 59 #[.agg #[.int .i64 kd, .int .i64 fr, .int .i64 to, .int .i64 tm, .int .i64 ix, .int .i64 lt, .int .i64 cm, .int .i64 hi, .int .i64 cx, .bool rj, .slice ea en ec, .int .i64 si, .int .i64 st, .slice sa sn sc]] w fun e w' => e = .returned (.bool (blank ix lt cm hi cx rj en si st sn)) ∧ Below w.heap.size w w' := by
  have HB : Hid (∀ o0, Below w.heap.size w (w.alloc o0)) := fun _ => ((Below.refl _ w).alloc (by simp) _)
  have HB2 : Hid (∀ o0 w2, Below (w.alloc o0).heap.size (w.alloc o0) w2 → Below w.heap.size w w2) := fun o w2 h => (HB.out o).trans (h.mono (by simp))
  unfold blank
  go_enter Try.func59, Try.ntmps59
  go_wp2_with (go_at_call 91; refine (isNone_any _ _ _ _ _ _).mono ?_; rintro e w2 ⟨rfl, hB2⟩)
  all_goals
    go_ret
    refine ⟨?_, by first | exact HB.out _ | exact HB2.out _ _ hB2⟩
    simp_all [natz]
end Go.Proofs.Ytfnnbfgfmbiabab
