/-
  A line's first word and those behind it.
-/
import Derived.Test.YtbckogojnjmjcaaGreatDoorA6
namespace Go.Proofs.YtbckogojnjmjcaaGreatDoor
open Go.RowKit Go.Shelf

/-- Words that may be read. -/
def SRd (W : World) (v : Value) (l : List Bs) : Prop := (l = [] ∧ ∃ a c, v = .slice a 0 c) ∨ ∃ b off c, v = .slice (some ⟨b, off, none⟩) l.length c ∧ b < W.heap.size ∧ ∀ j, j < l.length → W.cell? ⟨b, off + j, none⟩ = some (str (l.getD j []))
theorem SRd.below {W W' : World} {v : Value} {l : List Bs} (h : SRd W v l) (hB : Below W.heap.size W W') : SRd W' v l := by
  rcases h with h | ⟨b, off, c, h1, h2, h3⟩
  · exact .inl h
  · exact .inr ⟨b, off, c, h1, Nat.lt_of_lt_of_le h2 hB.size, fun j hj => (hB.cell (p := ⟨b, off + j, none⟩) h2).trans (h3 j hj)⟩
/-- What cutFirst answers. -/
def CfR (s : Bs) (e : Ending) (w' : World) : Prop :=
  (4096 < s.length ∧ e = .returned (.tuple #[str [], .slice none 0 0, .int .i64 3])) ∨ (s.length ≤ 4096 ∧ (∀ ws, ¬ Ln s ws) ∧ e = .returned (.tuple #[str [], .slice none 0 0, .int .i64 4])) ∨
  (s.length ≤ 4096 ∧ Ln s [] ∧ e = .returned (.tuple #[str [], .slice none 0 0, .int .i64 20])) ∨
  (s.length ≤ 4096 ∧ ∃ wd ws v, Ln s (wd :: ws) ∧ ws.length ≤ 4096 ∧ SRd w' v ws ∧ e = .returned (.tuple #[str wd, v, .int .i64 0]))
set_option maxRecDepth 100000 in
theorem cutFirst_any (s : Bs) (hl : s.length ≤ 1000000) (w : World) (hv : Vars w) : Calls Tryz.prog 44 #[str s] w fun e w' => CfR s e w' ∧ Below w.heap.size w w' := by
  have HW := words_any s hl w hv
  unfold str at HW ⊢
  go_enter Tryz.func44, Tryz.ntmps44
  go_wp2_with fail
  refine HW.mono ?_
  rintro e w1 ⟨⟨h1, rfl⟩ | ⟨h1, h2, rfl⟩ | ⟨h1, ws, v, h2, h3, hO, rfl⟩, hB⟩
  · go_wp2
    go_ret3
    exact ⟨.inl ⟨h1, rfl⟩, hB⟩
  · go_wp2
    go_ret3
    exact ⟨.inr (.inl ⟨h1, h2, rfl⟩), hB⟩
  · rcases hO.parts with ⟨rfl, rfl⟩ | ⟨g, c, rfl, hg1, hg2, hc1, hc2⟩
    · go_wp2
      go_ret3
      exact ⟨.inr (.inr (.inl ⟨h1, h2, rfl⟩)), hB⟩
    · cases ws with
      | nil =>
        go_wp2
        go_ret3
        exact ⟨.inr (.inr (.inl ⟨h1, h2, rfl⟩)), hB⟩
      | cons wd ws =>
        have c0 := (hO.cell (k := 0) (by simp)).1
        have HS : Hid (∀ j, j < ws.length → w1.cell? ⟨g, 1 + j, none⟩ = some (str (ws.getD j []))) := fun j hj => by
          have := (hO.cell (k := j + 1) (by simpa using hj)).1
          rw [Nat.add_comm 1 j, this]
          rfl
        have HL : Hid (Ln s (wd :: ws)) := h2
        have hlw : (wd :: ws).length = ws.length + 1 := rfl
        have hcc : ws.length + 1 ≤ c := hc1
        have hc0 : w1.cell? ⟨g, 0, none⟩ = some (.string ⟨wd.toArray⟩) := c0
        have h4 : ws.length + 1 ≤ 4096 := by simp at h3; omega
        rw [hlw]
        generalize hn : ws.length = n at h4 hcc ⊢
        have HN : Hid (ws.length = n) := hn
        clear hn hlw hc1 h2 h3 hO c0 HW
        by_cases hce : c = 1
        · have hn0 : n = 0 := by omega
          subst hce hn0
          go_wp2
          go_region
          all_goals (
            go_wp2
            go_ret3
            refine ⟨.inr (.inr (.inr ⟨h1, wd, ws, _, HL.out, by rw [HN.out]; omega, .inl ⟨List.length_eq_zero_iff.1 HN.out, _, _, rfl⟩, rfl⟩)), hB.drew⟩)
        · have hadd : (if c = 1 then some (⟨g, 0, none⟩ : Addr) else some ⟨g, 1, none⟩) = some ⟨g, 1, none⟩ := by rw [if_neg hce]
          go_wp2
          go_region
          all_goals (
            go_wp2
            go_ret3
            refine ⟨.inr (.inr (.inr ⟨h1, wd, ws, _, HL.out, by rw [HN.out]; omega, .inr ⟨g, 1, c - 1, by rw [HN.out]; rfl, hg2, HS.out⟩, rfl⟩)), hB.drew⟩)
end Go.Proofs.YtbckogojnjmjcaaGreatDoor
