/-
  Texts that came in, and how many letters they hold.
-/
import Derived.Test.YtbckogojnjmjcaaDoorRi
import Derived.Test.YtbckogojnjmjcaaDoorTq
namespace Go.Proofs.YtbckogojnjmjcaaDoor
open Go.ChangeShapes Go.WideShapes Go.ChangeAt Go.RowKit
set_option linter.unusedVariables false

set_option maxRecDepth 100000 in
/-- Texts that came in, and how they read. -/
theorem inStrsB {H : Type} {enc : TypeId × Value → H} {W : World} {n : Nat} {v : Value} {x : DataW H × List MemPlace} (h : DataW.trod enc Tryd.prog W 0 (fun _ => true) true n 32 [v] = some x) (hk : Rows.uptoBulkAll [x.1] ≤ 1048576) :
    ∃ (a : Option Addr) (c : Nat) (l : List Bs), v = .slice a l.length c ∧ SRd W v l ∧ l.length ≤ maxLen ∧ sumL l ≤ 1048576 := by
  rcases open_strings Tryd.underlying32 Tryd.underlying9 (by kernel_rfl) h with ⟨hcs, _⟩ | ⟨x0, l, c, ss, hcs, _, hl, hm, hz, hxz, hcell, hwz⟩
  · simp at hcs
    subst hcs
    exact ⟨none, 0, [], rfl, .inl ⟨rfl, _, _, rfl⟩, by simp, by simp [sumL]⟩
  · simp at hcs
    subst hcs
    have hzl : l ≤ ss.length := by rw [hz]; split <;> omega
    have hlen : ((ss.take l).map fun s => s.data.toList).length = l := by simp; omega
    refine ⟨some x0, c, (ss.take l).map fun s => s.data.toList, by rw [hlen], ?_, by rw [hlen]; omega, ?_⟩
    · by_cases h0 : l = 0
      · subst h0; exact .inl ⟨by simp, _, _, rfl⟩
      · obtain ⟨b, off, spot⟩ := x0
        have hc0 := hcell 0 (by omega)
        have hspot : spot = none := by simpa [Addr.add] using World.cell?_spot hc0
        subst hspot
        refine .inr ⟨b, off, c, by rw [hlen], ?_, fun i hi => ?_⟩
        · have := cell_lt hc0; rw [Addr.add_lit] at this; exact this
        · rw [hlen] at hi
          have h1 := hcell i (by omega)
          rw [Addr.add_lit] at h1
          rw [h1]
          have hi2 : i < ss.length := by omega
          simp [hi, hi2, str]
    · have key : ∀ ys : List ByteArray, sumL (ys.map fun s => s.data.toList) ≤ Rows.uptoBulkAll (strs (H := H) ys) := by
        intro ys
        induction ys with
        | nil => simp [sumL]
        | cons y ys ih =>
          simp only [strs, List.map_cons, Rows.uptoBulkAll, Rows.uptoBulk, sumL, List.sum_cons] at ih ⊢
          omega
      have h1 := key (ss.take l)
      rw [hxz] at hk
      simp only [Rows.uptoBulkAll, Rows.uptoBulk] at hk
      omega
end Go.Proofs.YtbckogojnjmjcaaDoor
