/-
  The document's log: Restore.
-/
import Derived.Test.YteekpfgjpdopmaaRn
import Derived.Test.YteekpfgjpdopmaaRs
namespace Go.Proofs.Yteekpfgjpdopmaa
open Go.RowKit
set_option linter.unusedVariables false

/-- All is written. -/
theorem Rg.anew {N : Nat} {S : Nat → Prop} {w : World} {b : Nat} {P : PL} (h : Rg N S w b P) (i t : Int) (ok : (⟨i, t, [], i, i, i, i, i⟩ : PL).Ok) :
    RK N S w ((((((((w.setCell ⟨b, 0, none⟩ (.int .i64 i)).setCell ⟨b, 1, none⟩ (.int .i64 t)).setCell ⟨b, 2, none⟩ (.slice none 0 0)).setCell ⟨b, 3, none⟩ (.int .i64 i)).setCell ⟨b, 4, none⟩ (.int .i64 i)).setCell ⟨b, 5, none⟩ (.int .i64 i)).setCell ⟨b, 6, none⟩ (.int .i64 i)).setCell ⟨b, 7, none⟩ (.int .i64 i)) b ⟨i, t, [], i, i, i, i, i⟩ := by
  obtain ⟨va, vc, es, hb, -⟩ := h.cells
  have hO : Out S w ((((((((w.setCell ⟨b, 0, none⟩ (.int .i64 i)).setCell ⟨b, 1, none⟩ (.int .i64 t)).setCell ⟨b, 2, none⟩ (.slice none 0 0)).setCell ⟨b, 3, none⟩ (.int .i64 i)).setCell ⟨b, 4, none⟩ (.int .i64 i)).setCell ⟨b, 5, none⟩ (.int .i64 i)).setCell ⟨b, 6, none⟩ (.int .i64 i)).setCell ⟨b, 7, none⟩ (.int .i64 i)) := ((((((((Out.refl S w).put h.Sb).put h.Sb).put h.Sb).put h.Sb).put h.Sb).put h.Sb).put h.Sb).put h.Sb
  refine ⟨⟨⟨.slice none 0 0, [], ?_, EntsOw.nil _ _, rfl, by simp [Value.ownBlock], by simp⟩, ok, h.Sb, fun j hj => Nat.lt_of_lt_of_le (h.inn j hj) hO.size, h.fr⟩, hO⟩
  exact set5 (by rw [heap_set (heap_set (heap_set hb 0 _) 1 _) 2 _]; rfl) _ _ _ _ _

set_option maxRecDepth 100000 in
set_option maxHeartbeats 4000000 in
theorem RRestore_any {N : Nat} {S : Nat → Prop} {w : World} {b : Nat} {P : PL} (h : Rg N S w b P) (i t : Int) :
    Calls Try.prog 55 #[.pointer (some ⟨b, 0, none⟩), .int .i64 i, .int .i64 t] w fun e w' => e = .returned (.int .i64 (if rsY P i t then 0 else 1)) ∧ RK N S w w' b (rsP P i t) := by
  obtain ⟨va, vc, hcs⟩ := h.cs
  obtain ⟨⟨k0, k1, k2, k3, k4, k5, k6, k7⟩, kf, kb⟩ := hcs w (Below.refl _ _)
  have hrs : rsY P i t = true ↔ (1 ≤ i ∧ i ≤ 4611686018427387904 ∧ 1 ≤ t ∧ t ≤ 4611686018427387904) ∧ P.c < i := by
    unfold rsY isPl; simp only [Bool.and_eq_true, decide_eq_true_eq]; omega
  by_cases hy : rsY P i t = true
  · obtain ⟨⟨y1, y2, y3, y4⟩, y5⟩ := hrs.1 hy
    have HK : Hid (RK N S w ((((((((w.setCell ⟨b, 0, none⟩ (.int .i64 i)).setCell ⟨b, 1, none⟩ (.int .i64 t)).setCell ⟨b, 2, none⟩ (.slice none 0 0)).setCell ⟨b, 3, none⟩ (.int .i64 i)).setCell ⟨b, 4, none⟩ (.int .i64 i)).setCell ⟨b, 5, none⟩ (.int .i64 i)).setCell ⟨b, 6, none⟩ (.int .i64 i)).setCell ⟨b, 7, none⟩ (.int .i64 i)) b (rsP P i t)) := by
      show RK _ _ _ _ _ _
      have e : rsP P i t = ⟨i, t, [], i, i, i, i, i⟩ := by unfold rsP; rw [if_pos hy]
      rw [e]
      exact h.anew i t (rs_ok (by unfold rsY at hy; simp only [Bool.and_eq_true] at hy; exact hy.1))
    rw [if_pos hy]
    clear h hcs hrs hy
    have q1 : ¬ i < 1 := by omega
    have q2 : ¬ 4611686018427387904 < i := by omega
    have q3 : ¬ t < 1 := by omega
    have q4 : ¬ 4611686018427387904 < t := by omega
    have q5 : ¬ i ≤ P.c := by omega
    clear y1 y2 y3 y4 y5
    go_enter Try.func55, Try.ntmps55
    go_wp2
    go_ret
    exact ⟨rfl, HK.out⟩
  · have HK : Hid (RK N S w w b (rsP P i t)) := by
      show RK _ _ _ _ _ _
      unfold rsP; rw [if_neg hy]; exact h.rk (Below.refl _ _)
    rw [if_neg hy]
    have hno : i < 1 ∨ 4611686018427387904 < i ∨ t < 1 ∨ 4611686018427387904 < t ∨ i ≤ P.c := by
      rcases Classical.em ((1 ≤ i ∧ i ≤ 4611686018427387904 ∧ 1 ≤ t ∧ t ≤ 4611686018427387904) ∧ P.c < i) with q | q
      · exact absurd (hrs.2 q) hy
      · omega
    clear h hcs hrs hy
    by_cases q1 : i < 1
    · clear hno
      go_enter Try.func55, Try.ntmps55
      go_wp2
      go_ret
      exact ⟨rfl, HK.out⟩
    · by_cases q2 : 4611686018427387904 < i
      · clear hno
        go_enter Try.func55, Try.ntmps55
        go_wp2
        go_ret
        exact ⟨rfl, HK.out⟩
      · by_cases q3 : t < 1
        · clear hno
          go_enter Try.func55, Try.ntmps55
          go_wp2
          go_ret
          exact ⟨rfl, HK.out⟩
        · by_cases q4 : 4611686018427387904 < t
          · clear hno
            go_enter Try.func55, Try.ntmps55
            go_wp2
            go_ret
            exact ⟨rfl, HK.out⟩
          · have q5 : i ≤ P.c := by omega
            clear hno
            go_enter Try.func55, Try.ntmps55
            go_wp2
            go_ret
            exact ⟨rfl, HK.out⟩
end Go.Proofs.Yteekpfgjpdopmaa
