/-
  Messages: what kinds 1, 2, 3 do not use.
-/
import Derived.Test.YtfnnbfgfmbiababMsgA
namespace Go.Proofs.Ytfnnbfgfmbiabab
open Go.RowKit Go.Shelf

set_option maxRecDepth 100000 in
set_option maxHeartbeats 8000000 in
theorem unused1_any (fr to tm ix lt cm hi cx : Int) (rj : Bool) (ea : Option Addr) (en ec : Nat) (si st : Int) (sa : Option Addr) (sn sc : Nat) (w : World) : Calls Try.prog 60 #[.agg #[.int .i64 1, .int .i64 fr, .int .i64 to, .int .i64 tm, .int .i64 ix, .int .i64 lt, .int .i64 cm, .int .i64 hi, .int .i64 cx, .bool rj, .slice ea en ec, .int .i64 si, .int .i64 st, .slice sa sn sc]] w fun e w' => e = .returned (.agg #[.int .i64 1, .int .i64 fr, .int .i64 to, .int .i64 tm, .int .i64 0, .int .i64 0, .int .i64 cm, .int .i64 hi, .int .i64 cx, .bool rj, .slice ea en ec, .int .i64 si, .int .i64 st, .slice sa sn sc]) ∧ Below w.heap.size w w' := by
  have HB : Hid (∀ o0 o1, Below w.heap.size w ((w.alloc o0).alloc o1)) := fun _ _ => ((Below.refl _ w).alloc (by simp) _).alloc (by simp) _
  go_enter Try.func60, Try.ntmps60
  go_wp2
  go_returns
  exact ⟨rfl, HB.out _ _⟩

set_option maxRecDepth 100000 in
set_option maxHeartbeats 8000000 in
theorem unused2_any (fr to tm ix lt cm hi cx : Int) (rj : Bool) (ea : Option Addr) (en ec : Nat) (si st : Int) (sa : Option Addr) (sn sc : Nat) (w : World) : Calls Try.prog 60 #[.agg #[.int .i64 2, .int .i64 fr, .int .i64 to, .int .i64 tm, .int .i64 ix, .int .i64 lt, .int .i64 cm, .int .i64 hi, .int .i64 cx, .bool rj, .slice ea en ec, .int .i64 si, .int .i64 st, .slice sa sn sc]] w fun e w' => e = .returned (.agg #[.int .i64 2, .int .i64 fr, .int .i64 to, .int .i64 tm, .int .i64 ix, .int .i64 lt, .int .i64 cm, .int .i64 hi, .int .i64 cx, .bool false, .slice ea en ec, .int .i64 si, .int .i64 st, .slice sa sn sc]) ∧ Below w.heap.size w w' := by
  have HB : Hid (∀ o0 o1, Below w.heap.size w ((w.alloc o0).alloc o1)) := fun _ _ => ((Below.refl _ w).alloc (by simp) _).alloc (by simp) _
  go_enter Try.func60, Try.ntmps60
  go_wp2
  go_returns
  exact ⟨rfl, HB.out _ _⟩

set_option maxRecDepth 100000 in
set_option maxHeartbeats 8000000 in
theorem unused3_any (fr to tm ix lt cm hi cx : Int) (rj : Bool) (ea : Option Addr) (en ec : Nat) (si st : Int) (sa : Option Addr) (sn sc : Nat) (w : World) : Calls Try.prog 60 #[.agg #[.int .i64 3, .int .i64 fr, .int .i64 to, .int .i64 tm, .int .i64 ix, .int .i64 lt, .int .i64 cm, .int .i64 hi, .int .i64 cx, .bool rj, .slice ea en ec, .int .i64 si, .int .i64 st, .slice sa sn sc]] w fun e w' => e = .returned (.agg #[.int .i64 3, .int .i64 fr, .int .i64 to, .int .i64 tm, .int .i64 0, .int .i64 0, .int .i64 0, .int .i64 hi, .int .i64 cx, .bool rj, .slice none 0 0, .int .i64 si, .int .i64 st, .slice sa sn sc]) ∧ Below w.heap.size w w' := by
  have HB : Hid (∀ o0 o1, Below w.heap.size w ((w.alloc o0).alloc o1)) := fun _ _ => ((Below.refl _ w).alloc (by simp) _).alloc (by simp) _
  go_enter Try.func60, Try.ntmps60
  go_wp2
  go_returns
  exact ⟨rfl, HB.out _ _⟩

end Go.Proofs.Ytfnnbfgfmbiabab
