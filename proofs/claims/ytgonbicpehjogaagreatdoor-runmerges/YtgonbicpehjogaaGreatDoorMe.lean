/-
  Two rows of the same acts are the same to the document's kept.
-/
import Derived.Test.YtgonbicpehjogaaGreatDoorMd
namespace Go.Proofs.YtgonbicpehjogaaGreatDoor
open Go.RowKit
set_option linter.unusedVariables false

theorem AcAt.drew {M : Nat} {w : World} {b o : Nat} {x : Ac} {d : Value} (h : AcAt M w b o x d) (n : Nat) : AcAt M (w.drewN n) b o x d := ⟨h.dat, h.c0, h.c1, h.c2, h.c3, h.c4, h.c5, h.c6, h.c7, h.c8, h.c9⟩
set_option maxRecDepth 100000 in
set_option maxHeartbeats 4000000 in
theorem kept_any (l : List Ac) (a1 a2 : Option Addr) (c1 c2 : Nat) (w : World) (hl : l.length ≤ 1000000) (h1 : ActsAt w.heap.size w a1 l) (h2 : ActsAt w.heap.size w a2 l) :
    Calls Tryz.prog 6 #[.slice a1 l.length c1, .slice a2 l.length c2] w fun e w' => e = .returned (.bool true) ∧ ∃ n, w' = w.drewN n := by
  have H1 : Hid (ActsAt w.heap.size w a1 l) := h1
  have H2 : Hid (ActsAt w.heap.size w a2 l) := h2
  clear h1 h2
  go_enter Tryz.func6, Tryz.ntmps6
  go_wp2_with fail
  go_loopw [5] (fun vi wr => ∃ k n : Nat, vi = .int .i64 k ∧ k ≤ l.length ∧ wr = w.drewN n) (fun i _ => l.length - (intOf i).toNat)
  case atStart => exact ⟨0, 0, rfl, Nat.zero_le _, rfl⟩
  case round =>
    obtain ⟨k, n, rfl, hk, rfl⟩ := hrel
    by_cases hlt : k < l.length
    · rcases H1.out with h | ⟨b1, o1, rfl, hb1, g1⟩
      · rw [h] at hlt; simp at hlt
      rcases H2.out with h | ⟨b2, o2, rfl, hb2, g2⟩
      · rw [h] at hlt; simp at hlt
      obtain ⟨d1, q1⟩ := g1 k hlt
      obtain ⟨d2, q2⟩ := g2 k hlt
      have q1 := q1.drew n
      have q2 := q2.drew n
      obtain ⟨W, hW⟩ : ∃ W, W = w.drewN n := ⟨_, rfl⟩
      have HW : Hid (W = w.drewN n) := hW
      rw [← hW] at q1 q2 ⊢
      clear hW
      have HS : Hid (∀ m, Calls Tryz.prog 10 #[d1, d2] (W.drewN m) fun e w' => e = .returned (.bool true) ∧ ∃ n, w' = (W.drewN m).drewN n) := fun m => (same_any w.heap.size d1 d2 _ _ (W.drewN m) (q1.drew m).dat (q2.drew m).dat).mono (fun e w' h => by rw [decide_eq_true rfl] at h; exact h)
      obtain ⟨-, p0, p1, p2, p3, p4, p5, p6, p7, p8, p9⟩ := q1
      obtain ⟨-, r0, r1, r2, r3, r4, r5, r6, r7, r8, r9⟩ := q2
      generalize aat l k = x at *
      obtain ⟨xkind, xn, xdata, xid, xop, xcl, xsq, xkey, xval, xold⟩ := x
      simp only at p0 p1 p2 p3 p4 p5 p6 p7 p8 p9 r0 r1 r2 r3 r4 r5 r6 r7 r8 r9
      clear g1 g2
      go_wp2
      go_quiet ((go_at_call 10; exact Calls.quiet_of (HS.out _)))
      go_wp2_with fail
      go_quiet (fail)
      go_wp2_with fail
      rw [HW.out, World.drewN_drewN]
      exact ⟨⟨k + 1, _, by simp, by omega, rfl⟩, by simp [intOf]; omega⟩
    · have hke : k = l.length := by omega
      subst hke
      go_wp2
      go_ret
      exact ⟨rfl, n, rfl⟩
end Go.Proofs.YtgonbicpehjogaaGreatDoor
