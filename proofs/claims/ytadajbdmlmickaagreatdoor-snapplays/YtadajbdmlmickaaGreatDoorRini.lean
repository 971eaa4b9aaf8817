/-
  Numbers that came in, as the row reads them.
-/
import Derived.Test.YtadajbdmlmickaaGreatDoorRin
import Derived.Test.YtadajbdmlmickaaGreatDoorInBas
namespace Go.Proofs.YtadajbdmlmickaaGreatDoor
open Go.ChangeShapes Go.WideShapes Go.ChangeAt Go.RowKit
set_option linter.unusedVariables false

theorem isRow_in {w : World} {a : Option Addr} {len cap : Nat} {zs : List Int} (h : IsRow .i64 w a len cap zs) : ∃ l : List Int, l.length = len ∧ In.Sl w.heap.size w (.slice a len cap) l ∧ ∀ x ∈ l, -9223372036854775808 ≤ x ∧ x ≤ 9223372036854775807 := by
  rcases h with ⟨rfl, rfl, rfl, rfl⟩ | ⟨x, rfl, hl, hm, hz, hc, hwf⟩
  · exact ⟨[], rfl, In.Sl.nil _ _, by simp⟩
  · have hlen : (zs.take len).length = len := by simp; omega
    refine ⟨zs.take len, hlen, ⟨some x, cap, by rw [hlen], by omega, hm, ?_⟩, fun y hy => ?_⟩
    · by_cases h0 : len = 0
      · subst h0; exact .inl (by simp)
      · obtain ⟨b, off, spot⟩ := x
        have hc0 := hc 0 (by omega)
        have hspot : spot = none := by simpa [Addr.add] using World.cell?_spot hc0
        subst hspot
        refine .inr ⟨b, off, rfl, ?_, fun i hi => ?_⟩
        · have := cell_lt hc0; rw [Addr.add_lit] at this; exact this
        · rw [hlen] at hi
          have h1 := hc i (by omega)
          rw [Addr.add_lit] at h1
          rw [h1]
          simp [hi]
    · have := bounds_i64 (hwf y (List.mem_of_mem_take hy)); exact ⟨by omega, by omega⟩
set_option maxRecDepth 100000 in
theorem inIntsS {H : Type} {enc : TypeId × Value → H} {W : World} {n : Nat} {v : Value} {x : DataW H × List MemPlace} (h : DataW.trod enc Tryz.prog W 0 (fun _ => true) true n 46 [v] = some x) :
    ∃ (a : Option Addr) (c : Nat) (l : List Int), v = .slice a l.length c ∧ In.Sl W.heap.size W (.slice a l.length c) l ∧ ∀ x ∈ l, -9223372036854775808 ≤ x ∧ x ≤ 9223372036854775807 := by
  obtain ⟨a4, n4, k4, e4, zs, w4⟩ : ∃ a4 n4 k4, v = .slice a4 n4 k4 ∧ ∃ zs, IsRow .i64 W a4 n4 k4 zs := by
    rcases open_ints Tryz.underlying46 Tryz.underlying3 (by kernel_rfl) h with ⟨hcs, _⟩ | ⟨x, l, c, zs, hcs, _, hl, hm, hz, hxz, hcell, hwz⟩
    · simp at hcs
      exact ⟨none, 0, 0, hcs, [], .inl ⟨rfl, rfl, rfl, rfl⟩⟩
    · simp at hcs
      exact ⟨some x, l, c, hcs, zs, .inr ⟨_, rfl, hl, hm, by simpa using hz, hcell, hwz⟩⟩
  subst e4
  obtain ⟨l, hl, hs, hb⟩ := isRow_in w4
  subst hl
  exact ⟨a4, k4, l, rfl, hs, hb⟩
end Go.Proofs.YtadajbdmlmickaaGreatDoor
