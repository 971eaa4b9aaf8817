/-
  Acked.
-/
import Derived.Test.YtdgaimiggejleaaMe
namespace Go.Proofs.Ytdgaimiggejleaa
open Go.RowKit
set_option linter.unusedVariables false

set_option maxRecDepth 100000 in
set_option maxHeartbeats 4000000 in
theorem Acked_any {N : Nat} {S : Nat → Prop} {w : World} {b : Nat} {p : PP} (h : Pg N S w b p) (hN : N ≤ w.heap.size) (ho : p.Ok) (x : Int) (hx0 : 0 ≤ x) (hx1 : x ≤ 4611686018427387904) :
    Calls Try.prog 28 #[.pointer (some ⟨b, 0, none⟩), .int .i64 x] w fun e w' => e = .returned (.bool (decide (p.m < x))) ∧ PTh N S w w' b (p.acked x) := by
  obtain ⟨d, ⟨⟨c0, c1, c2, c3, c4, c5⟩, cf⟩, hb, hq⟩ := h.cells
  have hw : IntKind.i64.wrap (max p.m x + 1) = max p.m x + 1 := by rw [IntKind.wrap_i64]; have := ho.mn; have := ho.n1; have := ho.m0; omega
  have hs : p.st = 0 ∨ p.st = 1 ∨ p.st = 2 := by have := ho.s0; have := ho.s2; omega
  have hk0 : 0 ≤ (p.ack x).m := by show 0 ≤ max p.m x; omega
  have hk1 : (p.ack x).m ≤ 4611686018427387904 := by show max p.m x ≤ _; have := ho.mn; have := ho.n1; omega
  obtain ⟨W3, hW3⟩ : ∃ W3, (((w.setCell ⟨b, 2, none⟩ (.int .i64 (max p.m x))).setCell ⟨b, 3, none⟩ (.int .i64 (max p.n (max p.m x + 1)))).setCell ⟨b, 4, none⟩ (.bool false)).drew = W3 := ⟨_, rfl⟩
  have hO3 : Out (fun i => i = b) w W3 := by
    rw [← hW3]
    have h1 : Out (fun i => i = b) w (((w.setCell ⟨b, 2, none⟩ (.int .i64 (max p.m x))).setCell ⟨b, 3, none⟩ (.int .i64 (max p.n (max p.m x + 1)))).setCell ⟨b, 4, none⟩ (.bool false)) := Out.put (Out.put (Out.put (Out.refl _ _) (by rfl)) (by rfl)) (by rfl)
    exact ⟨h1.os, h1.tape, h1.output, h1.size, h1.block⟩
  have hb3 : W3.heap[b]? = some (.cells (({ p with m := max p.m x, n := max p.n (max p.m x + 1), pa := false } : PP).row d) 65 (0, 0)) := by
    rw [← hW3]
    have := heap_set (heap_set (heap_set hb 2 (.int .i64 (max p.m x))) 3 (.int .i64 (max p.n (max p.m x + 1)))) 4 (.bool false)
    simpa [PP.row, World.drew] using this
  have hP3 : Pg N S W3 b { p with m := max p.m x, n := max p.n (max p.m x + 1), pa := false } := h.turn hq hO3 hb3 rfl rfl
  have hN3 : N ≤ W3.heap.size := Nat.le_trans hN hO3.size
  have HF : Hid (Calls Try.prog 47 #[.pointer (some ⟨d, 0, none⟩), .int .i64 x] W3 fun e w' => ∃ k : Int, e = .returned (.int .i64 k) ∧ PTh N S w w' b (p.ack x)) :=
    (free_any (hq.out hO3 (fun i hi => hi.2)) hN3 x).mono (fun e w' h2 => ⟨_, h2.1, PTh.of (hO3.mono (by rintro i rfl; exact h.Sb)) (hP3.win hb3 hN3 h2.2) hN⟩)
  have HNW : Hid (∀ w4, PTh N S w w4 b (p.ack x) → ∀ st, p.st = st → 0 ≤ st → st ≤ 2 → Calls Try.prog 46 #[.pointer (some ⟨b, 0, none⟩)] w4 _) := fun w4 ht st e h0 h2 => now_any b w4 st (ht.q.inn _ ht.q.Sb) (by
    obtain ⟨d', ⟨⟨-, k1, -⟩, -⟩, -, -⟩ := ht.q.cells
    rw [k1]; show some (Value.int .i64 p.st) = _; rw [e]) h0 h2
  have HW3 : Hid (_ = W3) := hW3
  have k0 : W3.cell? ⟨b, 0, none⟩ = some (.pointer (some ⟨d, 0, none⟩)) := by simp [World.cell?, hb3, PP.row]
  have ff := fld2
  clear h hb hq hO3 hb3 hP3 hN3 hW3
  rcases hs with hs | hs | hs
  · have HC : Hid (∀ w4 w5 g, PTh N S w w4 b (p.ack x) → Below w4.heap.size w4 w5 → w5.cell? ⟨g, 0, none⟩ = some (.pointer (some ⟨b, 0, none⟩)) → w4.heap.size ≤ g → Calls Try.prog 71 #[.int .i64 x, .int .i64 p.m, .pointer (some ⟨g, 0, none⟩)] w5 fun e w' => e = .returned (.tuple #[]) ∧ PTh N S w w' b (p.acked x)) := fun w4 w5 g ht hB hg hgN => by
      have h5 := ht.q.below hB
      have hN4 : N ≤ w4.heap.size := Nat.le_trans hN ht.out.size
      have hN5 : N ≤ w5.heap.size := Nat.le_trans hN4 hB.size
      refine (acked0_any h5 hN5 hg hk0 hk1 x p.m).mono ?_
      rintro e w' ⟨rfl, h6⟩
      refine ⟨rfl, ?_⟩
      rw [PP.acked, if_pos hs]; exact ht.step (PTh.after hB h6 hN4) hN
    have HNw : Hid (∀ w4, PTh N S w w4 b (p.ack x) → Calls _ _ _ w4 _) := fun w4 ht => HNW.out w4 ht 0 hs (by omega) (by omega)
    clear HNW hs ho hk0 hk1 hx0 hx1 c1
    go_enter Try.func28, Try.ntmps28
    go_wp2_with fail
    go_region_law (fail)
    all_goals (
      go_wp2_with (first
        | (rw [HW3.out]; go_at_call 47; refine HF.out.mono ?_; rintro r w4 ⟨k4, rfl, ht⟩; have HT4 : Hid (PTh N S w w4 b (p.ack x)) := ht; clear ht)
        | (go_at_call 46; refine (HNw.out w4 HT4.out).mono ?_; rintro r w5 ⟨g, rfl, hB, hg, hgN⟩; have HB : Hid (Below _ _ _) := hB; have HG : Hid (World.cell? _ _ = _) := hg; have HGN : Hid (_ ≤ g) := hgN; simp only [actN, act0]; clear hB hg hgN)
        | (go_at_call 71; refine (HC.out w4 w5 g HT4.out HB.out HG.out HGN.out).mono ?_; rintro r w6 ⟨rfl, ht⟩; have HT : Hid (PTh N S w w6 b (p.acked x)) := ht; clear ht))
      go_ret
      exact ⟨rfl, HT.out⟩)
  · have HC : Hid (∀ w4 w5 g, PTh N S w w4 b (p.ack x) → Below w4.heap.size w4 w5 → w5.cell? ⟨g, 0, none⟩ = some (.pointer (some ⟨b, 0, none⟩)) → w4.heap.size ≤ g → Calls Try.prog 79 #[.int .i64 x, .int .i64 p.m] w5 fun e w' => e = .returned (.tuple #[]) ∧ PTh N S w w' b (p.acked x)) := fun w4 w5 g ht hB hg hgN => by
      have h5 := ht.q.below hB
      have hN4 : N ≤ w4.heap.size := Nat.le_trans hN ht.out.size
      have hN5 : N ≤ w5.heap.size := Nat.le_trans hN4 hB.size
      refine (acked1_any x p.m w5).mono ?_
      rintro e w' ⟨rfl, h6⟩
      refine ⟨rfl, ?_⟩
      rw [PP.acked, if_neg (by omega), if_pos hs]; subst h6; exact ht.step (PTh.after hB (h5.stay hN5) hN4) hN
    have HNw : Hid (∀ w4, PTh N S w w4 b (p.ack x) → Calls _ _ _ w4 _) := fun w4 ht => HNW.out w4 ht 1 hs (by omega) (by omega)
    clear HNW hs ho hk0 hk1 hx0 hx1 c1
    go_enter Try.func28, Try.ntmps28
    go_wp2_with fail
    go_region_law (fail)
    all_goals (
      go_wp2_with (first
        | (rw [HW3.out]; go_at_call 47; refine HF.out.mono ?_; rintro r w4 ⟨k4, rfl, ht⟩; have HT4 : Hid (PTh N S w w4 b (p.ack x)) := ht; clear ht)
        | (go_at_call 46; refine (HNw.out w4 HT4.out).mono ?_; rintro r w5 ⟨g, rfl, hB, hg, hgN⟩; have HB : Hid (Below _ _ _) := hB; have HG : Hid (World.cell? _ _ = _) := hg; have HGN : Hid (_ ≤ g) := hgN; simp only [actN, act1]; clear hB hg hgN)
        | (go_at_call 79; refine (HC.out w4 w5 g HT4.out HB.out HG.out HGN.out).mono ?_; rintro r w6 ⟨rfl, ht⟩; have HT : Hid (PTh N S w w6 b (p.acked x)) := ht; clear ht))
      go_ret
      exact ⟨rfl, HT.out⟩)
  · have HC : Hid (∀ w4 w5 g, PTh N S w w4 b (p.ack x) → Below w4.heap.size w4 w5 → w5.cell? ⟨g, 0, none⟩ = some (.pointer (some ⟨b, 0, none⟩)) → w4.heap.size ≤ g → Calls Try.prog 85 #[.int .i64 x, .int .i64 p.m, .pointer (some ⟨g, 0, none⟩)] w5 fun e w' => e = .returned (.tuple #[]) ∧ PTh N S w w' b (p.acked x)) := fun w4 w5 g ht hB hg hgN => by
      have h5 := ht.q.below hB
      have hN4 : N ≤ w4.heap.size := Nat.le_trans hN ht.out.size
      have hN5 : N ≤ w5.heap.size := Nat.le_trans hN4 hB.size
      refine (acked2_any h5 hN5 hg hk0 hk1 x p.m).mono ?_
      rintro e w' ⟨rfl, h6⟩
      refine ⟨rfl, ?_⟩
      rw [PP.acked, if_neg (by omega), if_neg (by omega)]; exact ht.step (PTh.after hB h6 hN4) hN
    have HNw : Hid (∀ w4, PTh N S w w4 b (p.ack x) → Calls _ _ _ w4 _) := fun w4 ht => HNW.out w4 ht 2 hs (by omega) (by omega)
    clear HNW hs ho hk0 hk1 hx0 hx1 c1
    go_enter Try.func28, Try.ntmps28
    go_wp2_with fail
    go_region_law (fail)
    all_goals (
      go_wp2_with (first
        | (rw [HW3.out]; go_at_call 47; refine HF.out.mono ?_; rintro r w4 ⟨k4, rfl, ht⟩; have HT4 : Hid (PTh N S w w4 b (p.ack x)) := ht; clear ht)
        | (go_at_call 46; refine (HNw.out w4 HT4.out).mono ?_; rintro r w5 ⟨g, rfl, hB, hg, hgN⟩; have HB : Hid (Below _ _ _) := hB; have HG : Hid (World.cell? _ _ = _) := hg; have HGN : Hid (_ ≤ g) := hgN; simp only [actN, act2]; clear hB hg hgN)
        | (go_at_call 85; refine (HC.out w4 w5 g HT4.out HB.out HG.out HGN.out).mono ?_; rintro r w6 ⟨rfl, ht⟩; have HT : Hid (PTh N S w w6 b (p.acked x)) := ht; clear ht))
      go_ret
      exact ⟨rfl, HT.out⟩)
end Go.Proofs.Ytdgaimiggejleaa
