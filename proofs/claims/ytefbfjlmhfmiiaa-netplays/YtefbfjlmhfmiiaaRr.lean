/-
  Both networks: mails that are the same.
-/
import Derived.Test.YtefbfjlmhfmiiaaRla
namespace Go.Proofs.Ytefbfjlmhfmiiaa
open Go.RowKit
set_option linter.unusedVariables false

set_option maxRecDepth 100000 in
set_option maxHeartbeats 8000000 in
/-- Mail, of two that say the same. -/
theorem Mail_same {w : World} {M : Nat} (e f : Ml) (hs : e.says = f.says) (he : Sl M w e.x e.d) (hf : Sl M w f.x f.d) (hM : M ≤ w.heap.size) :
    Calls Try.prog 31 #[.agg #[.int .i64 e.n, .int .i64 e.f, .int .i64 e.t, e.x, .bool e.s], .agg #[.int .i64 f.n, .int .i64 f.f, .int .i64 f.t, f.x, .bool f.s]] w fun r w' => r = .returned (.bool true) ∧ Below w.heap.size w w' := by
  have HB : Hid (∀ o o' n, Below w.heap.size w (((w.alloc o).alloc o').drewN n)) := fun o o' n => below_drewN (((Below.refl _ w).alloc (Nat.le_refl _) o).alloc (by simp) o') n
  obtain ⟨n, ff, t, a, c, d, s⟩ := e
  obtain ⟨n', ff', t', a', c', d', s'⟩ := f
  unfold Ml.says at hs
  simp only [Prod.mk.injEq] at hs
  obtain ⟨rfl, rfl, rfl, rfl, rfl⟩ := hs
  simp only [Ml.x] at he hf ⊢
  have HE : Hid (∀ o o', Calls Try.prog 27 #[.slice a d.length c, .slice a' d.length c'] ((w.alloc o).alloc o') fun e w' => e = .returned (.bool true) ∧ ∃ m, w' = ((w.alloc o).alloc o').drewN m) := fun o o' => by
    have hbl : Below w.heap.size w ((w.alloc o).alloc o') := HB.out o o' 0
    refine (same_any w.heap.size _ _ d d ((w.alloc o).alloc o') ((he.mono hM).below hbl) ((hf.mono hM).below hbl)).mono ?_
    rintro r w' ⟨rfl, q⟩
    exact ⟨by simp, q⟩
  clear he hf
  go_enter Try.func31, Try.ntmps31
  go_wp2_with fail
  refine (HE.out _ _).mono ?_
  rintro r w' ⟨rfl, m, rfl⟩
  go_wp2
  go_ret
  exact ⟨by simp, HB.out _ _ _⟩
end Go.Proofs.Ytefbfjlmhfmiiaa
