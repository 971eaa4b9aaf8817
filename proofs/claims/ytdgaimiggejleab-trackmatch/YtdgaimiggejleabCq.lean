/-
  Quorum; what a quorum has (Commit).
-/
import Derived.Test.YtdgaimiggejleabLCq
import Derived.Test.YtdgaimiggejleabBas
import Derived.Test.YtdgaimiggejleabMth
import Derived.Shelf.Sort.Plain
import Derived.Shelf.Lay
import Derived.Sort.OwnSortedInts
namespace Go.Proofs.Ytdgaimiggejleab
open Go.RowKit Go.Shelf
set_option linter.unusedVariables false

theorem may7_any (n : Int) (w : World) : Calls Try.prog 23 #[.int .i64 n] w fun e w' => e = .returned (.bool (decide (1 ≤ n) && decide (n ≤ 7))) ∧ w' = w := by
  by_cases h1 : 1 ≤ n
  · by_cases h2 : n ≤ 7
    · go_enter Try.func23, Try.ntmps23
      go_wp2
      go_ret
      exact ⟨by simp [h1, h2], rfl⟩
    · go_enter Try.func23, Try.ntmps23
      go_wp2
      go_ret
      exact ⟨by simp; omega, rfl⟩
  · go_enter Try.func23, Try.ntmps23
    go_wp2
    go_ret
    exact ⟨by simp; omega, rfl⟩

/-- A quorum of n. -/
def qrm (n : Int) : Int := if 1 ≤ n ∧ n ≤ 7 then n / 2 + 1 else 0

theorem Quorum_any (n : Int) (w : World) : Calls Try.prog 19 #[.int .i64 n] w fun e w' => e = .returned (.int .i64 (qrm n)) ∧ w' = w := by
  have HM : Hid (Calls _ _ _ _ _) := may7_any n w
  by_cases h : 1 ≤ n ∧ n ≤ 7
  · have hb : (decide (1 ≤ n) && decide (n ≤ 7)) = true := by simp; omega
    rw [hb] at HM
    have hc : n = 1 ∨ n = 2 ∨ n = 3 ∨ n = 4 ∨ n = 5 ∨ n = 6 ∨ n = 7 := by omega
    clear h hb
    rcases hc with rfl | rfl | rfl | rfl | rfl | rfl | rfl
    all_goals (
      go_enter Try.func19, Try.ntmps19
      go_wp2_with (go_at_call 23; refine HM.out.mono ?_; rintro r w1 ⟨rfl, rfl⟩)
      go_ret
      exact ⟨rfl, rfl⟩)
  · have hb : (decide (1 ≤ n) && decide (n ≤ 7)) = false := by simp; omega
    rw [hb] at HM
    rw [qrm, if_neg h]
    clear h hb
    go_enter Try.func19, Try.ntmps19
    go_wp2_with (go_at_call 23; refine HM.out.mono ?_; rintro r w1 ⟨rfl, rfl⟩)
    go_ret
    exact ⟨rfl, rfl⟩

/-- The library's sort of a row of the call's own. -/
theorem sort_ow (N g cap : Nat) (l : List Int) (w : World) (h : Ow N w (.slice (some ⟨g, 0, none⟩) l.length cap) l) (hl : l.length ≤ 7) :
    Calls Try.prog 28 #[.slice (some ⟨g, 0, none⟩) l.length cap] w fun e w' => e = .returned (.tuple #[]) ∧ Ow N w' (.slice (some ⟨g, 0, none⟩) l.length cap) (srt l) ∧ w.grownBy w' (some g) := by
  rcases h.2 with ⟨h1, h2⟩ | ⟨g', cap', cur, hv, hg, hb, hc, hm, hs, ht⟩
  · cases h1
  · cases hv
    rw [Nat.mul_one] at ht
    refine (Any.slices_Sort_int Try.lays189 g 0 cap l w (holds_of_blockI hb ht) (Array.getElem?_eq_some_iff.1 hb).1 (by omega)).mono ?_
    rintro e w' ⟨rfl, n, os, rfl⟩
    refine ⟨rfl, ?_, grownBy_sortedI _⟩
    have := ownsRow_sortedI (ss := l) (ts := srt l) (n := n) (os := os) (srt_len l) hg hb hc hm hs
    unfold Ow
    rw [srt_len l]
    exact this

set_option maxRecDepth 100000 in
theorem Commit_any (M : Nat) (v : Value) (l : List Int) (w : World) (h : Sl M w v l) :
    Calls Try.prog 20 #[v] w fun e w' => e = .returned (.int .i64 (cmt l)) ∧ Below w.heap.size w w' := by
  have HM : Hid (Calls _ _ _ _ _) := may7_any (l.length : Int) w
  have HQ : Hid (∀ w1, Calls _ _ _ _ _) := fun w1 => Quorum_any (l.length : Int) w1
  have hsl : Hid (Sl M w v l) := h
  obtain ⟨a, cap, rfl, hc1, hc2, -⟩ := h
  by_cases hr : 1 ≤ l.length ∧ l.length ≤ 7
  · have hb : (decide (1 ≤ (l.length : Int)) && decide ((l.length : Int) ≤ 7)) = true := by simp; omega
    rw [hb] at HM
    have hq : qrm (l.length : Int) = ((l.length / 2 + 1 : Nat) : Int) := by rw [qrm, if_pos (by omega)]; omega
    rw [hq] at HQ
    have hlen : ([] : List Int).length + l.length ≤ 1099511627776 := by simp; omega
    have HS : Hid (∀ v' w1, Ow w.heap.size w1 v' l → ∃ g c, v' = .slice (some ⟨g, 0, none⟩) l.length c ∧ w.heap.size ≤ g ∧ Calls Try.prog 28 #[.slice (some ⟨g, 0, none⟩) l.length c] w1 fun e w' => e = .returned (.tuple #[]) ∧ w'.cell? ⟨g, l.length - (l.length / 2 + 1), none⟩ = some (.int .i64 (cmt l)) ∧ w1.grownBy w' (some g)) := fun v' w1 ho => by
      rcases ho.2 with ⟨h1, h2⟩ | ⟨g, c, cur, hv, hg, hx, hc, hm, hs, ht⟩
      · omega
      · subst hv
        refine ⟨g, c, rfl, hg, (sort_ow _ g c l w1 ho hr.2).mono ?_⟩
        rintro e w' ⟨rfl, ho2, hgr⟩
        refine ⟨rfl, ?_, hgr⟩
        have hsl := ho2.sl (Nat.le_refl _)
        obtain ⟨a', cap', hv', -, -, hcc⟩ := hsl
        simp only [Value.slice.injEq] at hv'
        obtain ⟨rfl, -, rfl⟩ := hv'
        obtain ⟨b5, off5, ha, -, hcell⟩ := hcc.resolve_left (by intro e; have := srt_len l; rw [e] at this; simp at this; omega)
        cases ha
        have := hcell (l.length - (l.length / 2 + 1)) (by rw [srt_len]; omega)
        rw [Nat.zero_add] at this
        rw [this, cmt, if_pos hr, List.getD_eq_getElem?_getD]
    have hx1 : IntKind.i64.wrap ((l.length : Int) - ((l.length / 2 + 1 : Nat) : Int)) = ((l.length - (l.length / 2 + 1) : Nat) : Int) := by rw [IntKind.wrap_i64]; omega
    have hx3 : l.length - (l.length / 2 + 1) < l.length := by omega
    clear hr hb hq
    generalize hK : l.length - (l.length / 2 + 1) = K at *
    generalize hJ : l.length / 2 + 1 = J at *
    clear hK hJ
    go_enter Try.func20, Try.ntmps20
    go_wp2_with (first
      | (go_at_call 23; refine HM.out.mono ?_; rintro r w1 ⟨rfl, hw1⟩; subst w1)
      | (at_builtin; refine wpList_append_ow rfl _ _ rfl w.heap.size _ _ _ [] l rfl (Ow.nil _ _) rfl hsl.out hlen (Nat.le_refl _) ?_; intro v' w1 hO hg _; obtain ⟨g, c, rfl, hgN, hS⟩ := HS.out v' w1 (by simpa using hO); have HSS : Hid (Calls _ _ _ _ _) := hS; have HG : Hid (World.grownBy _ _ _) := hg; clear hO hg hS)
      | (go_at_call 28; refine HSS.out.mono ?_; rintro r w2 ⟨rfl, hcell, hg2⟩; have HG2 : Hid (World.grownBy _ _ _) := hg2; clear hg2)
      | (go_at_call 19; refine (HQ.out _).mono ?_; rintro r w3 ⟨rfl, hw3⟩; subst w3))
    go_ret
    exact ⟨rfl, ((Below.refl _ _).grown HG.out (Nat.le_refl _) (fun k e => by cases e)).grown HG2.out HG.out.size (fun k e => by cases e; exact hgN)⟩
  · have hb : (decide (1 ≤ (l.length : Int)) && decide ((l.length : Int) ≤ 7)) = false := by simp; omega
    rw [hb] at HM
    rw [cmt, if_neg hr]
    clear hr hb
    go_enter Try.func20, Try.ntmps20
    go_wp2_with (go_at_call 23; refine HM.out.mono ?_; rintro r w1 ⟨rfl, rfl⟩)
    go_ret
    exact ⟨rfl, Below.refl _ _⟩
end Go.Proofs.Ytdgaimiggejleab
