/-
  SameInts.
-/
import Derived.Test.YtadajbdmlmickaaGreatDoorInBas
import Derived.Deep.RegionHeld3
import Derived.Deep.RegionLaw
namespace Go.Proofs.YtadajbdmlmickaaGreatDoor.In
open Go.RowKit
set_option linter.unusedVariables false

theorem same_yes {l1 l2 : List Int} (hl : l1.length = l2.length) (h : ∀ j, j < l1.length → l1[j]?.getD 0 = l2[j]?.getD 0) : l1 = l2 := by
  apply List.ext_getElem hl
  intro i h1 h2
  have := h i h1
  simpa [List.getElem?_eq_getElem h1, List.getElem?_eq_getElem h2] using this

set_option maxRecDepth 100000 in
set_option maxHeartbeats 1000000 in
theorem same_any (N : Nat) (v1 v2 : Value) (l1 l2 : List Int) (w : World) (h1 : Sl N w v1 l1) (h2 : Sl N w v2 l2) :
    Calls Tryz.prog 15 #[v1, v2] w fun e w' => e = .returned (.bool (decide (l1 = l2))) ∧ ∃ n, w' = w.drewN n := by
  obtain ⟨a1, cap1, rfl, hc1, hm1, g1⟩ := h1
  obtain ⟨a2, cap2, rfl, hc2, hm2, g2⟩ := h2
  unfold maxLen at hm1 hm2
  by_cases hlen : l1.length = l2.length
  · have e1 : ((l1.length : Int) != (l2.length : Int)) = false := by simp [hlen]
    by_cases hz : l1 = []
    · subst hz
      obtain rfl : l2 = [] := List.length_eq_zero_iff.1 (by simpa using hlen.symm)
      clear hlen
      go_enter Tryz.func15, Tryz.ntmps15
      go_wp2
      go_loop [5] (fun i => i = .int .i64 0) (fun _ => 0)
      case atStart => rfl
      case round =>
        subst hrel
        go_wp2
        go_ret
        exact ⟨rfl, 0, rfl⟩
    · have hp : 0 < l1.length := List.length_pos_iff.2 hz
      obtain ⟨b1, o1, rfl, -, f1⟩ := g1.resolve_left hz
      obtain ⟨b2, o2, rfl, -, f2⟩ := g2.resolve_left (by intro h; rw [h] at hlen; simp at hlen; exact hz hlen)
      have HL : Hid (l1.length = l2.length) := hlen
      have hle : l1.length ≤ l2.length := by omega
      clear hlen
      go_enter Tryz.func15, Tryz.ntmps15
      go_wp2
      go_loopw [5] (fun i wr => ∃ k n : Nat, i = .int .i64 k ∧ k ≤ l1.length ∧ wr = w.drewN n ∧ ∀ j, j < k → l1[j]?.getD 0 = l2[j]?.getD 0) (fun i _ => l1.length - (intOf i).toNat)
      case atStart => exact ⟨0, 0, rfl, by omega, rfl, fun j hj => by omega⟩
      case round =>
        obtain ⟨k, n, rfl, hk, rfl, hj⟩ := hrel
        by_cases hlt : k < l1.length
        · have c1 := f1 k hlt
          have c2 := f2 k (by omega)
          have HJ : Hid (∀ j, j < k → l1[j]?.getD 0 = l2[j]?.getD 0) := hj
          clear hj f1 f2
          generalize hx1 : l1[k]?.getD 0 = x1 at c1
          generalize hx2 : l2[k]?.getD 0 = x2 at c2
          have H1 : Hid (l1[k]?.getD 0 = x1) := hx1
          have H2 : Hid (l2[k]?.getD 0 = x2) := hx2
          clear hx1 hx2
          by_cases he : x1 = x2
          · subst he
            go_wp2
            go_quiet (fail)
            go_wp2
            go_roundw
            case rel => 
              refine ⟨k + 1, _, by go_num, by omega, rfl, fun j hj => ?_⟩
              by_cases e : j = k
              · subst e; rw [H1.out, H2.out]
              · exact HJ.out j (by omega)
            case measure => simp [intOf]; omega
          · have hb : (x1 != x2) = true := by
              rw [bne_iff_ne]; exact he
            have HN : Hid (decide (l1 = l2) = false) := by
              show decide (l1 = l2) = false
              simp only [decide_eq_false_iff_not]; intro h; apply he; rw [← H1.out, ← H2.out, h]
            clear he
            go_wp2
            go_quiet (fail)
            go_wp2
            go_ret
            rw [HN.out]
            exact ⟨rfl, n + nq, by simp⟩
        · have HN : Hid (decide (l1 = l2) = true) := by
            show decide (l1 = l2) = true
            simp only [decide_eq_true_eq]
            exact same_yes HL.out (fun j hj' => hj j (by omega))
          clear hj
          go_wp2
          go_ret
          rw [HN.out]
          exact ⟨rfl, _, rfl⟩
  · have e1 : ((l1.length : Int) != (l2.length : Int)) = true := by simp; omega
    have e2 : decide (l1 = l2) = false := by simp; intro h; exact hlen (by rw [h])
    rw [e2]
    clear hlen e2
    go_enter Tryz.func15, Tryz.ntmps15
    go_wp2
    go_ret
    exact ⟨rfl, 0, rfl⟩

end Go.Proofs.YtadajbdmlmickaaGreatDoor.In
