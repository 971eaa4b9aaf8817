/-
  SameInts; the items of a lane; writing over a row.
-/
import Derived.Test.YthaoobfldponpaaLm
import Derived.Deep.RegionHeld3
import Derived.Deep.RegionLaw
namespace Go.Proofs.Ythaoobfldponpaa
open Go.RowKit
set_option linter.unusedVariables false

theorem same_yes {l1 l2 : List Int} (hl : l1.length = l2.length) (h : ∀ j, j < l1.length → l1[j]?.getD 0 = l2[j]?.getD 0) : l1 = l2 := by
  apply List.ext_getElem hl
  intro i h1 h2
  have := h i h1
  simpa [List.getElem?_eq_getElem h1, List.getElem?_eq_getElem h2] using this

set_option maxRecDepth 100000 in
set_option maxHeartbeats 1000000 in
theorem same_any (N : Nat) (v1 v2 : Value) (l1 l2 : List Int) (w : World) (h1 : Sl N w v1 l1) (h2 : Sl N w v2 l2) :
    Calls Try.prog 18 #[v1, v2] w fun e w' => e = .returned (.bool (decide (l1 = l2))) ∧ ∃ n, w' = w.drewN n := by
  obtain ⟨a1, cap1, rfl, hc1, hm1, g1⟩ := h1
  obtain ⟨a2, cap2, rfl, hc2, hm2, g2⟩ := h2
  unfold maxLen at hm1 hm2
  by_cases hlen : l1.length = l2.length
  · have e1 : ((l1.length : Int) != (l2.length : Int)) = false := by simp [hlen]
    by_cases hz : l1 = []
    · subst hz
      obtain rfl : l2 = [] := List.length_eq_zero_iff.1 (by simpa using hlen.symm)
      clear hlen
      go_enter Try.func18, Try.ntmps18
      go_wp2
      go_loop [5] (fun i => i = .int .i64 0) (fun _ => 0)
      case atStart => rfl
      case round =>
        subst hrel
        go_wp2
        go_ret
        exact ⟨rfl, 0, rfl⟩
    · have hp : 0 < l1.length := List.length_pos_iff.2 hz
      obtain ⟨b1, o1, rfl, -, f1⟩ := g1.resolve_left hz
      obtain ⟨b2, o2, rfl, -, f2⟩ := g2.resolve_left (by intro h; rw [h] at hlen; simp at hlen; exact hz hlen)
      have HL : Hid (l1.length = l2.length) := hlen
      have hle : l1.length ≤ l2.length := by omega
      clear hlen
      go_enter Try.func18, Try.ntmps18
      go_wp2
      go_loopw [5] (fun i wr => ∃ k n : Nat, i = .int .i64 k ∧ k ≤ l1.length ∧ wr = w.drewN n ∧ ∀ j, j < k → l1[j]?.getD 0 = l2[j]?.getD 0) (fun i _ => l1.length - (intOf i).toNat)
      case atStart => exact ⟨0, 0, rfl, by omega, rfl, fun j hj => by omega⟩
      case round =>
        obtain ⟨k, n, rfl, hk, rfl, hj⟩ := hrel
        by_cases hlt : k < l1.length
        · have c1 := f1 k hlt
          have c2 := f2 k (by omega)
          have HJ : Hid (∀ j, j < k → l1[j]?.getD 0 = l2[j]?.getD 0) := hj
          clear hj f1 f2
          generalize hx1 : l1[k]?.getD 0 = x1 at c1
          generalize hx2 : l2[k]?.getD 0 = x2 at c2
          have H1 : Hid (l1[k]?.getD 0 = x1) := hx1
          have H2 : Hid (l2[k]?.getD 0 = x2) := hx2
          clear hx1 hx2
          by_cases he : x1 = x2
          · subst he
            go_wp2
            go_quiet (fail)
            go_wp2
            go_roundw
            case rel => 
              refine ⟨k + 1, _, by go_num, by omega, rfl, fun j hj => ?_⟩
              by_cases e : j = k
              · subst e; rw [H1.out, H2.out]
              · exact HJ.out j (by omega)
            case measure => simp [intOf]; omega
          · have hb : (x1 != x2) = true := by
              rw [bne_iff_ne]; exact he
            have HN : Hid (decide (l1 = l2) = false) := by
              show decide (l1 = l2) = false
              simp only [decide_eq_false_iff_not]; intro h; apply he; rw [← H1.out, ← H2.out, h]
            clear he
            go_wp2
            go_quiet (fail)
            go_wp2
            go_ret
            rw [HN.out]
            exact ⟨rfl, n + nq, by simp⟩
        · have HN : Hid (decide (l1 = l2) = true) := by
            show decide (l1 = l2) = true
            simp only [decide_eq_true_eq]
            exact same_yes HL.out (fun j hj' => hj j (by omega))
          clear hj
          go_wp2
          go_ret
          rw [HN.out]
          exact ⟨rfl, _, rfl⟩
  · have e1 : ((l1.length : Int) != (l2.length : Int)) = true := by simp; omega
    have e2 : decide (l1 = l2) = false := by simp; intro h; exact hlen (by rw [h])
    rw [e2]
    clear hlen e2
    go_enter Try.func18, Try.ntmps18
    go_wp2
    go_ret
    exact ⟨rfl, 0, rfl⟩

theorem litems_any {N : Nat} {S : Nat → Prop} {w : World} {d n room nx : Nat} {ls : Nat → List Int} (h : La N S w d n room nx ls) (i : Nat) (hi : i < n) :
    Calls Try.prog 29 #[.pointer (some ⟨d, 0, none⟩), .int .i64 (i : Int)] w fun e w' => ∃ v', e = .returned v' ∧ Ow w.heap.size w' v' (ls i) ∧ Below w.heap.size w w' := by
  have HH := has_any h (i : Int)
  have e0 : (decide (0 ≤ (i : Int)) && decide ((i : Int) < (n : Int))) = true := by simp; omega
  rw [e0] at HH
  obtain ⟨c, bs, F, h⟩ := h
  obtain ⟨⟨c0, -, -⟩, cp⟩ := h.cells
  have ci := cp i hi
  have HI := items_any (h.qs i hi)
  have hni : (i : Int) < (n : Int) := by omega
  clear h cp e0
  go_enter Try.func29, Try.ntmps29
  go_wp2_with (first
    | (go_at_call 38; refine HH.mono ?_; rintro e w1 ⟨rfl, hw1⟩; subst w1)
    | (go_at_call 37; refine HI.mono ?_; rintro e w2 ⟨v', rfl, h1, h2⟩; have H1 : Hid _ := h1; have H2 : Hid _ := h2; clear h1 h2))
  go_ret
  exact ⟨v', rfl, H1.out, H2.out⟩

theorem litems_none {N : Nat} {S : Nat → Prop} {w : World} {d n room nx : Nat} {ls : Nat → List Int} (h : La N S w d n room nx ls) (k : Int) (hk : ¬ (0 ≤ k ∧ k < (n : Int))) :
    Calls Try.prog 29 #[.pointer (some ⟨d, 0, none⟩), .int .i64 k] w fun e w' => e = .returned (.slice none 0 0) ∧ w' = w := by
  have HH := has_any h k
  have e0 : (decide (0 ≤ k) && decide (k < (n : Int))) = false := by simp; omega
  rw [e0] at HH
  clear h hk e0
  go_enter Try.func29, Try.ntmps29
  go_wp2_with (go_at_call 38; refine HH.mono ?_; rintro e w1 ⟨rfl, hw1⟩; subst w1)
  go_ret
  exact ⟨rfl, rfl⟩

/-- A number of a row of the call's own is written over. -/
theorem Ow.poke {N : Nat} {w : World} {g L c : Nat} {l : List Int} (h : Ow N w (.slice (some ⟨g, 0, none⟩) L c) l) (k : Nat) (x : Int) : Ow N (w.setCell ⟨g, k, none⟩ (.int .i64 x)) (.slice (some ⟨g, 0, none⟩) L c) (l.set k x) := by
  rcases h.2 with ⟨hv, _⟩ | ⟨g', cap, cur, hv, hN, hb, h1, h2, h3, h4⟩
  · cases hv
  · cases hv
    simp only [Nat.mul_one] at h3 h4
    refine ⟨by simp, .inr ⟨g, c, cur.setIfInBounds k (.int .i64 x), by simp, hN, heap_set hb k _, by simpa using h1, h2, by simpa using h3, ?_⟩⟩
    simp only [Nat.mul_one, Array.toList_setIfInBounds, List.length_set]
    rw [List.take_set, h4, List.map_set]
theorem Ow.at0 {N : Nat} {w : World} {v : Value} {l : List Int} (h : Ow N w v l) (hl : 0 < l.length) : ∃ g c, v = .slice (some ⟨g, 0, none⟩) l.length c ∧ N ≤ g ∧ (∀ k, k < l.length → w.cell? ⟨g, k, none⟩ = some (.int .i64 (l[k]?.getD 0))) ∧ ∀ k, w.frozen? ⟨g, k, none⟩ = false := by
  have h' := h
  rcases h.2 with ⟨hv, h0⟩ | ⟨g', cap, cur, rfl, hN, hb, h1, h2, h3, h4⟩
  · omega
  · obtain ⟨a, c, hv, -, -, hc⟩ := h'.sl (Nat.le_refl _)
    cases hv
    obtain ⟨b, off, e, -, hc⟩ := hc.resolve_left (by intro e; rw [e] at hl; simp at hl)
    cases e
    exact ⟨g', _, rfl, hN, fun k hk => by have := hc k hk; simpa using this, fun k => by simp [World.frozen?, hb]⟩

end Go.Proofs.Ythaoobfldponpaa
