/-
  The words of any line, any text as a word: the walk.
-/
import Derived.Test.YtbckogojnjmjcaaGreatDoorW4
import Derived.Test.YtbckogojnjmjcaaGreatDoorW5
namespace Go.Proofs.YtbckogojnjmjcaaGreatDoor
open Go.RowKit Go.Shelf

/-- What the words of a line are. -/
def WT (s : Bs) (k : Nat) (ws : List Bs) : Prop := (4096 < s.length ∧ k = 3 ∧ ws = []) ∨ (s.length ≤ 4096 ∧ (∀ us, ¬ Ln s us) ∧ k = 4 ∧ ws = []) ∨ (s.length ≤ 4096 ∧ Ln s ws ∧ k = 0)
theorem WT.uniq {s : Bs} {k m : Nat} {ws us : List Bs} (h : WT s k ws) (g : WT s m us) : k = m ∧ ws = us := by
  rcases h with ⟨h1, h2, h3⟩ | ⟨h1, h2, h3, h4⟩ | ⟨h1, h2, h3⟩ <;> rcases g with ⟨g1, g2, g3⟩ | ⟨g1, g2, g3, g4⟩ | ⟨g1, g2, g3⟩
  · exact ⟨by omega, by rw [h3, g3]⟩
  · omega
  · omega
  · omega
  · exact ⟨by omega, by rw [h4, g4]⟩
  · exact absurd g2 (h2 _)
  · omega
  · exact absurd h2 (g2 _)
  · exact ⟨by omega, h2.uniq _ g2⟩
theorem words_t (s : Bs) (hl : s.length ≤ 1000000) (w : World) (hv : Vars w) : Calls Tryz.prog 8 #[.string ⟨s.toArray⟩] w fun e w' => (∃ a c k ws, WT s k ws ∧ SRd w' (.slice a ws.length c) ws ∧ ws.length ≤ 1000000 ∧ e = .returned (.tuple #[.slice a ws.length c, .int .i64 (k : Int)])) ∧ Below w.heap.size w w' := by
  refine (words_any s hl w hv).mono ?_
  rintro e w' ⟨⟨h1, rfl⟩ | ⟨h1, h2, rfl⟩ | ⟨h1, ws, v, h2, h3, hO, rfl⟩, hB⟩
  · exact ⟨⟨none, 0, 3, [], .inl ⟨h1, rfl, rfl⟩, .inl ⟨rfl, _, _, rfl⟩, by simp, rfl⟩, hB⟩
  · exact ⟨⟨none, 0, 4, [], .inr (.inl ⟨h1, h2, rfl, rfl⟩), .inl ⟨rfl, _, _, rfl⟩, by simp, rfl⟩, hB⟩
  · obtain ⟨a, c, rfl⟩ := hO.rd.shape
    exact ⟨⟨a, c, 0, ws, .inr (.inr ⟨h1, h2, rfl⟩), hO.rd, by omega, rfl⟩, hB⟩
theorem rwords_t (s : Bs) (hl : s.length ≤ 1000000) (w : World) : Calls Tryz.prog 9 #[.string ⟨s.toArray⟩] w fun e w' => (∃ a c k ws, WT s k ws ∧ SRd w' (.slice a ws.length c) ws ∧ ws.length ≤ 1000000 ∧ e = .returned (.tuple #[.slice a ws.length c, .int .i64 (k : Int)])) ∧ Below w.heap.size w w' := by
  refine (rwords_any s hl w).mono ?_
  rintro e w' ⟨⟨h1, rfl⟩ | ⟨h1, h2, rfl⟩ | ⟨h1, ws, v, h2, h3, hO, rfl⟩, hB⟩
  · exact ⟨⟨none, 0, 3, [], .inl ⟨h1, rfl, rfl⟩, .inl ⟨rfl, _, _, rfl⟩, by simp, rfl⟩, hB⟩
  · exact ⟨⟨none, 0, 4, [], .inr (.inl ⟨h1, h2, rfl, rfl⟩), .inl ⟨rfl, _, _, rfl⟩, by simp, rfl⟩, hB⟩
  · obtain ⟨a, c, rfl⟩ := hO.rd.shape
    exact ⟨⟨a, c, 0, ws, .inr (.inr ⟨h1, h2, rfl⟩), hO.rd, by omega, rfl⟩, hB⟩
set_option maxRecDepth 100000 in
set_option maxHeartbeats 8000000 in
theorem words_walk (w : World) (hv : Vars w) (line : Bs) (hl : line.length ≤ maxLen) (s : Bs) (hs : s.length ≤ maxLen) : Calls Tryz.prog 3 #[str line, str s] w fun e w' => e = .returned (.bool true) ∧ Below w.heap.size w w' := by
  have HV : Hid (∀ W, Below w.heap.size w W → Vars W) := fun W h => hv.below h
  have HN := num_any
  have HFI := first_any w hv
  unfold maxLen at hl hs
  clear hv
  unfold str
  go_enter Tryz.func3, Tryz.ntmps3
  go_wp2_with fail
  refine HFI.mono ?_
  rintro e w1 ⟨rfl, hB1⟩
  have HB1 : Hid (Below w.heap.size w w1) := hB1
  clear hB1 HFI
  by_cases hll : 20000 < line.length
  · go_wp2
    go_ret
    exact ⟨rfl, HB1.out⟩
  by_cases hss : 20000 < s.length
  · go_wp2
    go_ret
    exact ⟨rfl, HB1.out⟩
  have HW1 := words_t line (by omega) w1 (HV.out _ HB1.out)
  go_wp2_with fail
  refine HW1.mono ?_
  rintro e w2 ⟨⟨a, c, k, ws, hT, hS, hwl, rfl⟩, hB2⟩
  have HT : Hid (WT line k ws) := hT
  have HS : Hid (SRd w2 (.slice a ws.length c) ws) := hS
  have HB2 : Hid (Below w.heap.size w w2) := HB1.out.trans (hB2.mono HB1.out.size)
  have HW2 := rwords_t line (by omega) w2
  clear hT hS hB2 HW1
  generalize hn : ws.length = n at *
  have HNL : Hid (ws.length = n) := hn
  clear hn
  go_wp2_with fail
  refine HW2.mono ?_
  rintro e w3 ⟨⟨a3, c3, k3, ws3, hT3, hS3, hwl3, rfl⟩, hB3⟩
  obtain ⟨rfl, rfl⟩ := HT.out.uniq hT3
  rw [HNL.out] at hS3
  rw [HNL.out]
  have HB3 : Hid (Below w.heap.size w w3) := HB2.out.trans (hB3.mono HB2.out.size)
  have HST := sameTexts_any w3 (.slice a n c) (.slice a3 n c3) ws ws (HS.out.below hB3) hS3 (by rw [HNL.out]; omega) (by rw [HNL.out]; omega)
  simp only [decide_true] at HST
  have hkb : k ≤ 4 := by rcases HT.out with ⟨-, h, -⟩ | ⟨-, -, h, -⟩ | ⟨-, -, h⟩ <;> omega
  clear hT3 hS3 hB3 HW2
  have HQ1 := fun W => quote_any s (by omega) W
  have HQ2 := fun W => rquote_any s (by omega) W
  unfold str at HQ1
  generalize quoteL s = q at *
  go_wp2_with (first
    | (go_at_call 10; refine HST.mono ?_; rintro e w4 ⟨rfl, hB4⟩)
    | (go_at_call 11; refine (HN _ _).mono ?_; rintro e w7 ⟨rfl, hw⟩; subst w7)
    | (go_at_call 12; refine (HQ1 _).mono ?_; rintro e w5 ⟨rfl, hB5⟩)
    | (go_at_call 13; refine (HQ2 _).mono ?_; rintro e w6 ⟨rfl, hB6⟩))
  go_ret
  have h4 : Below w.heap.size w w4 := HB3.out.trans (hB4.mono HB3.out.size)
  have h5 : Below w.heap.size w w5 := h4.trans (hB5.mono h4.size)
  exact ⟨rfl, h5.trans (hB6.mono h5.size)⟩
end Go.Proofs.YtbckogojnjmjcaaGreatDoor
