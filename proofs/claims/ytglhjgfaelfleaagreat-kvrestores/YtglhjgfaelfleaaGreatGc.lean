/-
  Whether a command may be.
-/
import Derived.Test.YtglhjgfaelfleaaGreatGb
namespace Go.Proofs.YtglhjgfaelfleaaGreat
open Go.RowKit Go.Shelf

theorem isIn_op (o : Int) : isIn o 2 4 = (o == 2 || o == 3 || o == 4) := by
  rw [Bool.eq_iff_iff]; simp [isIn]; omega

set_option maxRecDepth 100000 in
set_option maxHeartbeats 8000000 in
theorem ckCommand_any (o c s : Int) (k v d : List UInt8) (w : World) : Calls Tryz.prog 37 #[.agg #[], .agg #[.int .i64 o, .int .i64 c, .int .i64 s, .string ⟨k.toArray⟩, .string ⟨v.toArray⟩, .string ⟨d.toArray⟩]] w fun e w' => e = .returned (.int .i64 (ckCommand o c s k v d : Int)) ∧ Below w.heap.size w w' := by
  have HB : Hid (∀ o0 o1, Below w.heap.size w ((w.alloc o0).alloc o1)) := fun _ _ => (((Below.refl _ w).alloc (by simp) _).alloc (by simp) _)
  have hsk : (⟨k.toArray⟩ : ByteArray).size = k.length := by simp [ByteArray.size]
  have hsv : (⟨v.toArray⟩ : ByteArray).size = v.length := by simp [ByteArray.size]
  have hsd : (⟨d.toArray⟩ : ByteArray).size = d.length := by simp [ByteArray.size]
  go_enter Tryz.func37, Tryz.ntmps37
  go_wp2_with ((go_at_call 66; refine (within_any _ _ _ _).mono ?_; rintro e w' ⟨rfl, hw⟩; subst w'))
  all_goals
    go_ret
    refine ⟨?_, HB.out _ _⟩
    repeat (rename ∀ (a : Act) (w : World), _ → _ => a1; clear a1)
    first
    | (simp_all [ckCommand, isIn_op]; done)
    | (simp_all [ckCommand, isIn_op]; omega)
    | (simp_all [ckCommand, isIn_op]; (repeat' split) <;> first | rfl | omega | (simp_all; done) | (simp_all; omega))

end Go.Proofs.YtglhjgfaelfleaaGreat

namespace Go.Proofs.YtglhjgfaelfleaaGreat
open Go.RowKit Go.Shelf

set_option maxRecDepth 100000 in
set_option maxHeartbeats 8000000 in
theorem refCkCommand_any (o c s : Int) (k v d : List UInt8) (w : World) : Calls Tryz.prog 40 #[.agg #[.int .i64 o, .int .i64 c, .int .i64 s, .string ⟨k.toArray⟩, .string ⟨v.toArray⟩, .string ⟨d.toArray⟩]] w fun e w' => e = .returned (.int .i64 (ckCommand o c s k v d : Int)) ∧ Below w.heap.size w w' := by
  have HB : Hid (∀ o0, Below w.heap.size w (w.alloc o0)) := fun _ => ((Below.refl _ w).alloc (by simp) _)
  have hsk : (⟨k.toArray⟩ : ByteArray).size = k.length := by simp [ByteArray.size]
  have hsv : (⟨v.toArray⟩ : ByteArray).size = v.length := by simp [ByteArray.size]
  have hsd : (⟨d.toArray⟩ : ByteArray).size = d.length := by simp [ByteArray.size]
  go_enter Tryz.func40, Tryz.ntmps40
  go_wp2_with ((go_at_call 70; refine (refWithin_any _ _ _ _).mono ?_; rintro e w' ⟨rfl, hw⟩; subst w'))
  all_goals
    go_ret
    refine ⟨?_, HB.out _⟩
    repeat (rename ∀ (a : Act) (w : World), _ → _ => a1; clear a1)
    first
    | (simp_all [ckCommand, isIn_op]; done)
    | (simp_all [ckCommand, isIn_op]; omega)
    | (simp_all [ckCommand, isIn_op]; (repeat' split) <;> first | rfl | omega | (simp_all; done) | (simp_all; omega); done)
    | (have hq : ckCommand o c s k v d = 0 := by
         unfold ckCommand
         (repeat' split) <;> first | rfl | omega | (simp_all; done) | (simp_all [isIn]; done)
       rw [hq]; rfl)

end Go.Proofs.YtglhjgfaelfleaaGreat
