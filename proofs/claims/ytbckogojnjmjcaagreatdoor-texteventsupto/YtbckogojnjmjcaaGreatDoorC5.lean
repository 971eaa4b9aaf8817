/-
  Whether two lists of words are the same; the lines of which the document fixes all.
-/
import Derived.Test.YtbckogojnjmjcaaGreatDoorC4
namespace Go.Proofs.YtbckogojnjmjcaaGreatDoor
open Go.RowKit Go.Shelf

theorem num_any (n : Int) (w : World) : Calls Tryz.prog 11 #[.int .i64 n] w fun e w' => e = .returned (.int .i64 n) ∧ w' = w := by
  go_enter Tryz.func11, Tryz.ntmps11
  go_wp2
  go_ret
  exact ⟨rfl, rfl⟩
theorem SOw.rd {N : Nat} {w : World} {v : Value} {l : List Bs} (h : SOw N w v l) : SRd w v l := by
  rcases h.parts with ⟨rfl, rfl⟩ | ⟨g, c, rfl, hg, hg2, -, -⟩
  · exact .inl ⟨rfl, _, _, rfl⟩
  · exact .inr ⟨g, 0, c, rfl, hg2, fun j hj => by rw [Nat.zero_add]; exact (h.cell hj).1⟩
theorem SRd.shape {W : World} {v : Value} {l : List Bs} (h : SRd W v l) : ∃ a c, v = .slice a l.length c := by
  rcases h with ⟨rfl, a, c, rfl⟩ | ⟨b, off, c, rfl, -⟩
  · exact ⟨a, c, rfl⟩
  · exact ⟨_, c, rfl⟩
theorem same_upto {l m : List Bs} {k : Nat} (h : ∀ j, j < k → l.getD j [] = m.getD j []) (h1 : l.length = k) (h2 : m.length = k) : l = m := by
  apply List.ext_getElem (by omega)
  intro i hi hj
  have := h i (by omega)
  simpa [List.getD_eq_getElem?_getD, hi, hj] using this
set_option maxRecDepth 100000 in
theorem sameTexts_any (W : World) (v u : Value) (l m : List Bs) (hv : SRd W v l) (hu : SRd W u m) (hl : l.length ≤ 9223372036854775807) (_hm : m.length ≤ 9223372036854775807) : Calls Tryz.prog 10 #[v, u] W fun e w' => e = .returned (.bool (decide (l = m))) ∧ Below W.heap.size W w' := by
  obtain ⟨a, c, rfl⟩ := hv.shape
  obtain ⟨a', c', rfl⟩ := hu.shape
  by_cases hne : l.length = m.length
  case neg =>
    have HD : Hid (decide (l = m) = false) := by show _ = _; rw [decide_eq_false_iff_not]; intro e; exact hne (by rw [e])
    have hnb : ((l.length : Int) != (m.length : Int)) = true := by rw [bne_iff_ne]; omega
    rw [HD.out]
    clear hv hu
    go_enter Tryz.func10, Tryz.ntmps10
    go_wp2
    go_ret
    exact ⟨rfl, Below.refl _ _⟩
  have HVL : Hid (SRd W (.slice a l.length c) l) := hv
  have HUM : Hid (SRd W (.slice a' m.length c') m) := hu
  have HNE : Hid (l.length = m.length) := hne
  rw [← hne]
  clear hv hu _hm hne
  generalize hn : l.length = n at *
  have HN : Hid (l.length = n) := hn
  clear hn
  go_enter Tryz.func10, Tryz.ntmps10
  go_wp2
  go_loopw [5] (fun i wr => ∃ k : Nat, i = .int .i64 k ∧ k ≤ n ∧ Hid (∀ j, j < k → l.getD j [] = m.getD j []) ∧ Hid (Below W.heap.size W wr)) (fun i _ => n - (intOf i).toNat)
  case atStart => exact ⟨0, rfl, by omega, fun j hj => by omega, Below.refl _ _⟩
  case round =>
    obtain ⟨k, rfl, hk, HJ, HB⟩ := hrel
    by_cases hlt : k < n
    · have h1 : SRd wr (.slice a l.length c) l := by rw [HN.out]; exact HVL.out.below HB.out
      have h2 : SRd wr (.slice a' m.length c') m := HUM.out.below HB.out
      obtain ⟨b, off, rfl, hb, hc1⟩ := h1.at (k := k) (by rw [HN.out]; exact hlt)
      obtain ⟨b', off', rfl, hb', hc2⟩ := h2.at (k := k) (by rw [← HNE.out]; exact hlt)
      unfold str at hc1 hc2
      have HNX : Hid (l.getD k [] = m.getD k [] → ∀ j, j < k + 1 → l.getD j [] = m.getD j []) := fun e j hj => by
        by_cases h : j = k
        · subst h; exact e
        · exact HJ.out j (by omega)
      have HNO : Hid (l.getD k [] ≠ m.getD k [] → l ≠ m) := fun h e => h (by rw [e])
      generalize l.getD k [] = x at *
      generalize m.getD k [] = y at *
      clear h1 h2
      cases hxy : (x == y) with
      | false =>
        have hxn : (x != y) = true := by rw [bne, hxy]; rfl
        have HD : Hid (decide (l = m) = false) := by show _ = _; rw [decide_eq_false_iff_not]; exact HNO.out (by simpa using hxy)
        go_wp2
        go_region_held3 (fun V => V.cell? ⟨b, off + k, none⟩ = some (.string ⟨x.toArray⟩) ∧ V.cell? ⟨b', off' + k, none⟩ = some (.string ⟨y.toArray⟩)) (go_keep) (fail)
        go_wp2
        go_ret
        exact ⟨by rw [HD.out]; rfl, HB.out.drew⟩
      | true =>
        have hxn : (x != y) = false := by rw [bne, hxy]; rfl
        have HJ2 : Hid _ := HNX.out (by simpa using hxy)
        go_wp2
        go_region_held3 (fun V => V.cell? ⟨b, off + k, none⟩ = some (.string ⟨x.toArray⟩) ∧ V.cell? ⟨b', off' + k, none⟩ = some (.string ⟨y.toArray⟩)) (go_keep) (fail)
        go_wp2
        go_roundw
        case rel => exact ⟨k + 1, by simp, by omega, HJ2.out, HB.out.drew⟩
        case measure => simp [intOf]; omega
    · have : k = n := by omega
      subst this
      have HD : Hid (decide (l = m) = true) := by show _ = _; rw [decide_eq_true_eq]; exact same_upto HJ.out HN.out (HNE.out.symm)
      go_wp2
      go_ret
      exact ⟨by rw [HD.out]; rfl, HB.out⟩
def bs (l : List Nat) : Bs := l.map UInt8.ofNat
theorem AcOk.c2 : AcOk ⟨1, 1, 0, -5, 0, 0, [], [], []⟩ := ⟨by decide, by decide, by decide, by decide, by decide, by decide, by decide, by decide, by decide⟩
theorem AcOk.a4 : AcOk a4 := ⟨by decide, by decide, by decide, by decide, by decide, by decide, by decide, by decide, by decide⟩
/-- The five words of the first line. -/
def c1w : List Bs := [[112, 117, 116], [49], [50], [97], [98, 32, 99]]
theorem words_c1 (w : World) (hv : Vars w) : Calls Tryz.prog 8 #[.string ⟨#[112, 117, 116, 32, 32, 49, 32, 50, 32, 97, 32, 34, 98, 32, 99, 34]⟩] w fun e w' => ∃ v, SOw w.heap.size w' v c1w ∧ e = .returned (.tuple #[v, .int .i64 0]) ∧ Below w.heap.size w w' := by
  refine (words_any YtbckogojnjmjcaaGreatDoor.c1 (by decide) w hv).mono ?_
  rintro e w' ⟨⟨h1, -⟩ | ⟨-, h2, -⟩ | ⟨-, ws, v, h2, -, hO, rfl⟩, hB⟩
  · exact absurd h1 (by decide)
  · exact absurd c1_ln (h2 _)
  · have := h2.uniq _ c1_ln
    subst this
    exact ⟨v, hO, rfl, hB⟩
theorem parse_c2 (w : World) (hv : Vars w) : Calls Tryz.prog 14 #[.string ⟨#[116, 105, 99, 107, 32, 49, 32, 45, 53]⟩] w fun e w' => e = .returned (.tuple #[.agg (⟨1, 1, 0, -5, 0, 0, [], [], []⟩ : Ac).cells, .int .i64 0]) ∧ Below w.heap.size w w' := by
  refine (parseAct_any c2 (by decide) w hv).mono ?_
  rintro e w' ⟨⟨r, hr, rfl⟩, hB⟩
  rw [hr.uniq c2_pa]
  exact ⟨rfl, hB⟩
theorem parse_c3 (w : World) (hv : Vars w) : Calls Tryz.prog 14 #[.string ⟨#[116, 105, 99, 107, 32, 48, 49, 32, 50]⟩] w fun e w' => e = .returned (.tuple #[.agg ac0.cells, .int .i64 22]) ∧ Below w.heap.size w w' := by
  refine (parseAct_any c3 (by decide) w hv).mono ?_
  rintro e w' ⟨⟨r, hr, rfl⟩, hB⟩
  rw [hr.uniq c3_pa]
  exact ⟨rfl, hB⟩
theorem format_a4 (w : World) (hv : Vars w) : Calls Tryz.prog 16 #[.agg a4.cells] w fun e w' => e = .returned (.tuple #[str c4, .int .i64 0]) ∧ Below w.heap.size w w' := by
  refine (formatAct_any a4 AcOk.a4 w hv).mono ?_
  rintro e w' ⟨rfl, hB⟩
  rw [c4_fmt]
  exact ⟨rfl, hB⟩
set_option maxRecDepth 100000 in
set_option maxHeartbeats 4000000 in
theorem first_any (w : World) (hv : Vars w) : Calls Tryz.prog 7 #[] w fun e w' => e = .returned (.bool true) ∧ Below w.heap.size w w' := by
  have HV : Hid (∀ W, Below w.heap.size w W → Vars W) := fun W h => hv.below h
  have HN := num_any
  have HWD := words_c1 w hv
  have HEQ : Hid (∀ W, (Op.equalIn 10000 34 (.agg (⟨1, 1, 0, -5, 0, 0, [], [], []⟩ : Ac).cells) (.agg (⟨1, 1, 0, -5, 0, 0, [], [], []⟩ : Ac).cells)).run Tryz.prog W = .ok true W) := fun W => by rw [run_eq_act]; simp
  clear hv
  go_enter Tryz.func7, Tryz.ntmps7
  go_wp2_with fail
  refine HWD.mono ?_
  rintro e w1 ⟨v, hO1, rfl, hB1⟩
  have HB1 : Hid (Below w.heap.size w w1) := hB1
  have HO1 : Hid (SOw w.heap.size w1 v c1w) := hO1
  have HP2 := parse_c2 w1 (HV.out w1 HB1.out)
  unfold Ac.cells str at HP2
  have hz1 := hB1.size
  obtain ⟨va, vc, rfl, hc1, hc2⟩ := row_shape hO1
  clear hB1 hO1 HWD
  go_wp2_with fail
  refine HP2.mono ?_
  rintro e w2 ⟨rfl, hB2⟩
  have HB2 : Hid (Below w.heap.size w w2) := HB1.out.trans (hB2.mono hz1)
  have HO2 : Hid (SOw w.heap.size w2 (.slice va c1w.length vc) c1w) := HO1.out.below hB2
  have HAL : Hid (∀ o, Below w.heap.size w (w2.alloc o)) := fun o => HB2.out.alloc HB2.out.size o
  have HP3 := fun o => parse_c3 (w2.alloc o) (HV.out _ (HAL.out o))
  unfold ac0 Ac.cells str at HP3
  have hz2 := HB2.out.size
  clear hB2 HP2
  go_wp2_with fail
  refine (HP3 _).mono ?_
  rintro e w3 ⟨rfl, hB3⟩
  have HB3 : Hid (Below w.heap.size w w3) := (HAL.out _).trans (hB3.mono (by simp; omega))
  have HO3 : Hid (SOw w.heap.size w3 (.slice va c1w.length vc) c1w) := SOw.below (World.ownsRow.alloc HO2.out _) hB3
  have hx3 := (hB3.block w2.heap.size (by simp)).trans (heap_alloc_new w2 _)
  have HX3 : Hid (w3.heap[w2.heap.size]? = _) := hx3
  have HAL3 : Hid (∀ o, Below w.heap.size w (w3.alloc o)) := fun o => HB3.out.alloc HB3.out.size o
  have HF4 := fun o => format_a4 (w3.alloc o) (HV.out _ (HAL3.out o))
  unfold a4 c4 Ac.cells str at HF4
  have hz3 : w2.heap.size + 1 ≤ w3.heap.size := by have := hB3.size; simpa using this
  clear hB3 HP3 hx3
  go_wp2_with fail
  refine (HF4 _).mono ?_
  rintro e w4 ⟨rfl, hB4⟩
  have HB4 : Hid (Below w.heap.size w w4) := (HAL3.out _).trans (hB4.mono (by simp; omega))
  have hO4 : SOw w.heap.size w4 (.slice va c1w.length vc) c1w := SOw.below (World.ownsRow.alloc HO3.out _) hB4
  have hx4 := (hB4.block w2.heap.size (by simp; omega)).trans ((Below.heap_alloc _ _ _ (by omega)).trans HX3.out)
  have hz4 : w3.heap.size + 1 ≤ w4.heap.size := by have := hB4.size; simpa using this
  have HST : Calls Tryz.prog 10 #[.slice va 5 vc, .slice (some ⟨w4.heap.size, 0, none⟩) 5 5] (w4.alloc (.cells #[.string ⟨#[112, 117, 116]⟩, .string ⟨#[49]⟩, .string ⟨#[50]⟩, .string ⟨#[97]⟩, .string ⟨#[98, 32, 99]⟩] 9)) fun e w' => e = .returned (.bool true) ∧ Below w4.heap.size w4 w' := by
    have hB := (Below.refl _ w4).alloc (Nat.le_refl _) (.cells #[.string ⟨#[112, 117, 116]⟩, .string ⟨#[49]⟩, .string ⟨#[50]⟩, .string ⟨#[97]⟩, .string ⟨#[98, 32, 99]⟩] 9)
    have h2 : SRd (w4.alloc (.cells #[.string ⟨#[112, 117, 116]⟩, .string ⟨#[49]⟩, .string ⟨#[50]⟩, .string ⟨#[97]⟩, .string ⟨#[98, 32, 99]⟩] 9)) (.slice (some ⟨w4.heap.size, 0, none⟩) 5 5) c1w := by
      refine .inr ⟨w4.heap.size, 0, 5, rfl, by simp, fun j hj => ?_⟩
      have hh := heap_alloc_new w4 (.cells #[.string ⟨#[112, 117, 116]⟩, .string ⟨#[49]⟩, .string ⟨#[50]⟩, .string ⟨#[97]⟩, .string ⟨#[98, 32, 99]⟩] 9)
      simp only [World.cell?, hh, Nat.zero_add]
      have : j = 0 ∨ j = 1 ∨ j = 2 ∨ j = 3 ∨ j = 4 := by simp [c1w] at hj; omega
      rcases this with rfl | rfl | rfl | rfl | rfl <;> rfl
    refine (sameTexts_any _ _ _ c1w c1w (hO4.rd.below hB) h2 (by decide) (by decide)).mono ?_
    rintro e w' ⟨rfl, h⟩
    exact ⟨by simp, hB.trans (h.mono (by simp))⟩
  have HX4 : Hid (w4.heap[w2.heap.size]? = _) := hx4
  have hlen : c1w.length = 5 := rfl
  rw [hlen] at hc1
  rw [hlen]
  have heq := HEQ.out
  unfold Ac.cells str at heq
  clear hx4 hB4 hO4 HO3 HO2 HO1 HF4 hlen HX3
  go_wp2_with fail
  refine HST.mono ?_
  rintro e w5 ⟨rfl, hB5⟩
  have hx5 := (hB5.block w2.heap.size (by omega)).trans HX4.out
  obtain ⟨⟨r0, r1, r2, r3, r4, r5, r6, r7, r8⟩, -⟩ := cells9 hx5
  have HB5 : Hid (Below w.heap.size w w5) := HB4.out.trans (hB5.mono HB4.out.size)
  clear hx5 hB5 HST HX4
  go_wp2_with (go_at_call 11; refine (HN _ _).mono ?_; rintro e w6 ⟨rfl, hw⟩; subst w6)
  go_ret
  exact ⟨rfl, HB5.out⟩
end Go.Proofs.YtbckogojnjmjcaaGreatDoor
