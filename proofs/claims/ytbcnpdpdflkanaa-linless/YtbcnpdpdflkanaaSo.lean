/-
  What is wrong with an operation by itself.
-/
import Derived.Test.YtbcnpdpdflkanaaSt
namespace Go.Proofs.Ytbcnpdpdflkanaa
open Go.RowKit

set_option maxRecDepth 100000 in
theorem sound_any (x : Lo) (w : World) : Calls Try.prog 28 #[x.v] w fun e w' => e = .returned (.int .i64 (sound x)) ∧ Below w.heap.size w w' := by
  have HO := open_any x
  have B1 : ∀ o : Obj, Below w.heap.size w (w.alloc o) := fun o => (Below.refl _ w).alloc (Nat.le_refl _) _
  have B2 := below2 w
  obtain ⟨cl, sq, kind, key, val, old, call, back, code, rv⟩ := x
  unfold Lo.v Lo.box Lo.cells at *
  unfold sound
  simp only [str] at *
  generalize (⟨key.toArray⟩ : ByteArray) = s1 at *; generalize (⟨val.toArray⟩ : ByteArray) = s2 at *; generalize (⟨old.toArray⟩ : ByteArray) = s3 at *
  by_cases hk : kind < 1 ∨ 4 < kind
  · rw [if_pos hk]
    rcases hk with hk | hk
    · go_enter Try.func28, Try.ntmps28
      go_wp2
      go_ret
      exact ⟨rfl, B1 _⟩
    · have hk' : ¬ kind < 1 := by omega
      go_enter Try.func28, Try.ntmps28
      go_wp2
      go_ret
      exact ⟨rfl, B1 _⟩
  rw [if_neg hk]
  have h1 : ¬ kind < 1 := by omega
  have h4 : ¬ 4 < kind := by omega
  clear hk
  by_cases hc : call < 1
  · rw [if_pos hc]
    go_enter Try.func28, Try.ntmps28
    go_wp2
    go_ret
    exact ⟨rfl, B1 _⟩
  rw [if_neg hc]
  by_cases hb : back = 0
  · rw [if_pos hb]
    have e0 : decide (back = 0) = true := by simpa using hb
    clear hb
    by_cases hr : (⟨code, rv⟩ : Rp) = ⟨0, []⟩
    · rw [if_pos hr]
      injection hr with r1 r2
      subst r1 r2
      go_enter Try.func28, Try.ntmps28
      go_wp2_with (go_at_call 33; refine (HO _).mono ?_; rintro e w1 ⟨rfl, rfl⟩; rw [e0])
      go_ret
      exact ⟨rfl, B2 _ _⟩
    · rw [if_neg hr]
      have HR : Hid (¬ (⟨code, rv⟩ : Rp) = ⟨0, []⟩) := hr
      clear hr
      go_enter Try.func28, Try.ntmps28
      go_wp2_with (go_at_call 33; refine (HO _).mono ?_; rintro e w1 ⟨rfl, rfl⟩; rw [e0])
      all_goals (first | (go_ret; exact ⟨rfl, B2 _ _⟩) | (exfalso; apply HR.out; simp_all))
  rw [if_neg hb]
  have e0 : decide (back = 0) = false := by simpa using hb
  clear hb
  by_cases hbc : back < call
  · rw [if_pos hbc]
    go_enter Try.func28, Try.ntmps28
    go_wp2_with (go_at_call 33; refine (HO _).mono ?_; rintro e w1 ⟨rfl, rfl⟩; rw [e0])
    go_ret
    exact ⟨rfl, B2 _ _⟩
  rw [if_neg hbc]
  by_cases hq : code < 1 ∨ 10 < code
  · rw [if_pos hq]
    rcases hq with hq | hq
    · go_enter Try.func28, Try.ntmps28
      go_wp2_with (go_at_call 33; refine (HO _).mono ?_; rintro e w1 ⟨rfl, rfl⟩; rw [e0])
      go_ret
      exact ⟨rfl, B2 _ _⟩
    · have hq' : ¬ code < 1 := by omega
      go_enter Try.func28, Try.ntmps28
      go_wp2_with (go_at_call 33; refine (HO _).mono ?_; rintro e w1 ⟨rfl, rfl⟩; rw [e0])
      go_ret
      exact ⟨rfl, B2 _ _⟩
  rw [if_neg hq]
  have q1 : ¬ code < 1 := by omega
  have q2 : ¬ 10 < code := by omega
  clear hq
  go_enter Try.func28, Try.ntmps28
  go_wp2_with (go_at_call 33; refine (HO _).mono ?_; rintro e w1 ⟨rfl, rfl⟩; rw [e0])
  go_ret
  exact ⟨rfl, B2 _ _⟩
end Go.Proofs.Ytbcnpdpdflkanaa
