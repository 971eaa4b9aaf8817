/-
  Beat, Acked, NewProgress.
-/
import Derived.Test.YtdgaimiggejleaaMe
namespace Go.Proofs.Ytdgaimiggejleaa
open Go.RowKit
set_option linter.unusedVariables false

set_option maxRecDepth 100000 in
theorem Beat_any {N : Nat} {S : Nat → Prop} {w : World} {b : Nat} {p : PP} (h : Pg N S w b p) (hN : N ≤ w.heap.size) (ho : p.Ok) :
    Calls Try.prog 32 #[.pointer (some ⟨b, 0, none⟩)] w fun e w' => e = .returned (.tuple #[]) ∧ PTh N S w w' b p.beat := by
  obtain ⟨d, ⟨⟨c0, c1, c2, c3, c4, c5⟩, cf⟩, hb, hq⟩ := h.cells
  have hs : p.st = 0 ∨ p.st = 1 ∨ p.st = 2 := by have := ho.s0; have := ho.s2; omega
  have hm1 : p.m ≤ 4611686018427387904 := by have := ho.mn; have := ho.n1; omega
  obtain ⟨W1, hW1⟩ : ∃ W1, w.setCell ⟨b, 4, none⟩ (.bool false) = W1 := ⟨_, rfl⟩
  have hO1 : Out (fun i => i = b) w W1 := by rw [← hW1]; exact Out.set rfl
  have hb1 : W1.heap[b]? = some (.cells (({ p with pa := false } : PP).row d) 65 (0, 0)) := by
    rw [← hW1]
    simpa [PP.row] using heap_set hb 4 (.bool false)
  have hP1 : Pg N S W1 b { p with pa := false } := h.turn hq hO1 hb1 rfl rfl
  have HOS : Hid (Out S w W1) := hO1.mono (by rintro i rfl; exact h.Sb)
  have hN1 : N ≤ W1.heap.size := Nat.le_trans hN hO1.size
  have HP : Hid (∀ w1, Below W1.heap.size W1 w1 → Pg N S w1 b { p with pa := false }) := fun w1 hB => hP1.below hB
  have HL : Hid (∀ w1, Below W1.heap.size W1 w1 → N ≤ w1.heap.size) := fun w1 hB => Nat.le_trans hN1 hB.size
  have HSG : Hid (∀ g, W1.heap.size ≤ g → ¬ S g) := fun g hg hs => by have := hP1.inn g hs; omega
  have HNW : Hid (∀ st, p.st = st → 0 ≤ st → st ≤ 2 → Calls Try.prog 46 #[.pointer (some ⟨b, 0, none⟩)] W1 _) := fun st e h0 h2 => now_any b W1 st (hP1.inn _ hP1.Sb) (by simp [World.cell?, hb1, PP.row, e]) h0 h2
  have HW1 : Hid (_ = W1) := hW1
  clear h hb hq hO1 hb1 hP1 hW1 c0 c1 c2 c3 c5
  have cf4 := cf 4
  clear cf
  rcases hs with hs | hs | hs
  · have HNw : Hid (Calls _ _ _ _ _) := HNW.out 0 hs (by omega) (by omega)
    have HC : Hid (∀ w1 g, Below W1.heap.size W1 w1 → w1.cell? ⟨g, 0, none⟩ = some (.pointer (some ⟨b, 0, none⟩)) → W1.heap.size ≤ g → Calls Try.prog 74 #[] w1 fun e w' => e = .returned (.tuple #[]) ∧ PTh N S w w' b p.beat) := fun w1 g hB hg hgN => by
      have h1 := HP.out w1 hB
      have hN2 := hN1
      have hN1 := HL.out w1 hB
      have hS := HSG.out g hgN
      have hgl := lt_of_cell hg
      refine (beat0_any w1).mono ?_
      rintro e w' ⟨rfl, ht⟩
      refine ⟨rfl, ?_⟩
      rw [PP.beat, if_pos hs]; subst ht; exact PTh.of HOS.out (PTh.after hB (h1.stay hN1) hN2) hN
    clear HP HL HSG HNW hs
    have ff := fld4
    go_enter Try.func32, Try.ntmps32
    go_wp2_with (first
      | (rw [HW1.out]; go_at_call 46; refine HNw.out.mono ?_; rintro r w1 ⟨g, rfl, hB, hg, hgN⟩; have HB : Hid (Below _ _ _) := hB; have HG : Hid (World.cell? _ _ = _) := hg; have HGN : Hid (_ ≤ g) := hgN; simp only [actN, act0]; clear hB hg hgN)
      | (go_at_call 74; refine (HC.out w1 g HB.out HG.out HGN.out).mono ?_; rintro r w2 ⟨rfl, ht⟩; have HT : Hid _ := ht; clear ht))
    go_returns
    exact ⟨rfl, HT.out⟩
  · have HNw : Hid (Calls _ _ _ _ _) := HNW.out 1 hs (by omega) (by omega)
    have HC : Hid (∀ w1 g, Below W1.heap.size W1 w1 → w1.cell? ⟨g, 0, none⟩ = some (.pointer (some ⟨b, 0, none⟩)) → W1.heap.size ≤ g → Calls Try.prog 81 #[.pointer (some ⟨g, 0, none⟩)] w1 fun e w' => e = .returned (.tuple #[]) ∧ PTh N S w w' b p.beat) := fun w1 g hB hg hgN => by
      have h1 := HP.out w1 hB
      have hN2 := hN1
      have hN1 := HL.out w1 hB
      have hS := HSG.out g hgN
      have hgl := lt_of_cell hg
      refine (beat1_any h1 hN1 hg hS hgl ho.rm).mono ?_
      rintro e w' ⟨rfl, ht⟩
      refine ⟨rfl, ?_⟩
      rw [PP.beat, if_neg (by omega), if_pos hs]; exact PTh.of HOS.out (PTh.after hB ht hN2) hN
    clear HP HL HSG HNW hs
    have ff := fld4
    go_enter Try.func32, Try.ntmps32
    go_wp2_with (first
      | (rw [HW1.out]; go_at_call 46; refine HNw.out.mono ?_; rintro r w1 ⟨g, rfl, hB, hg, hgN⟩; have HB : Hid (Below _ _ _) := hB; have HG : Hid (World.cell? _ _ = _) := hg; have HGN : Hid (_ ≤ g) := hgN; simp only [actN, act1]; clear hB hg hgN)
      | (go_at_call 81; refine (HC.out w1 g HB.out HG.out HGN.out).mono ?_; rintro r w2 ⟨rfl, ht⟩; have HT : Hid _ := ht; clear ht))
    go_returns
    exact ⟨rfl, HT.out⟩
  · have HNw : Hid (Calls _ _ _ _ _) := HNW.out 2 hs (by omega) (by omega)
    have HC : Hid (∀ w1 g, Below W1.heap.size W1 w1 → w1.cell? ⟨g, 0, none⟩ = some (.pointer (some ⟨b, 0, none⟩)) → W1.heap.size ≤ g → Calls Try.prog 87 #[.pointer (some ⟨g, 0, none⟩)] w1 fun e w' => e = .returned (.tuple #[]) ∧ PTh N S w w' b p.beat) := fun w1 g hB hg hgN => by
      have h1 := HP.out w1 hB
      have hN2 := hN1
      have hN1 := HL.out w1 hB
      have hS := HSG.out g hgN
      have hgl := lt_of_cell hg
      refine (beat2_any h1 hN1 hg ho.m0 hm1).mono ?_
      rintro e w' ⟨rfl, ht⟩
      refine ⟨rfl, ?_⟩
      rw [PP.beat, if_neg (by omega), if_neg (by omega)]; exact PTh.of HOS.out (PTh.after hB ht hN2) hN
    clear HP HL HSG HNW hs
    have ff := fld4
    go_enter Try.func32, Try.ntmps32
    go_wp2_with (first
      | (rw [HW1.out]; go_at_call 46; refine HNw.out.mono ?_; rintro r w1 ⟨g, rfl, hB, hg, hgN⟩; have HB : Hid (Below _ _ _) := hB; have HG : Hid (World.cell? _ _ = _) := hg; have HGN : Hid (_ ≤ g) := hgN; simp only [actN, act2]; clear hB hg hgN)
      | (go_at_call 87; refine (HC.out w1 g HB.out HG.out HGN.out).mono ?_; rintro r w2 ⟨rfl, ht⟩; have HT : Hid _ := ht; clear ht))
    go_returns
    exact ⟨rfl, HT.out⟩

set_option maxRecDepth 100000 in
theorem NewProgress_any (N room : Nat) (next : Int) (w : World) (h1 : 1 ≤ room) (h2 : room ≤ 64) (hN : N ≤ w.heap.size) :
    Calls Try.prog 23 #[.int .i64 next, .int .i64 (room : Int)] w fun e w' => ∃ b S, e = .returned (.pointer (some ⟨b, 0, none⟩)) ∧ Pg N S w' b ⟨0, 0, max 1 next, false, 0, [], room⟩ ∧ Below w.heap.size w w' ∧ ∀ i, S i → w.heap.size ≤ i := by
  have HW : Hid (Calls _ _ _ _ _) := newWindow_any N room w h1 h2 hN
  have HE : Hid (∀ w1, Wn N (fun i => w.heap.size ≤ i ∧ i < w.heap.size + 2) w1 (w.heap.size + 1) room [] → Below w.heap.size w w1 → ∀ n : Int, n = max 1 next → ∃ S, Pg N S (w1.alloc (.cells #[.pointer (some ⟨w.heap.size + 1, 0, none⟩), .int .i64 0, .int .i64 0, .int .i64 n, .bool false, .int .i64 0] 65)) w1.heap.size ⟨0, 0, max 1 next, false, 0, [], room⟩ ∧ Below w.heap.size w (w1.alloc (.cells #[.pointer (some ⟨w.heap.size + 1, 0, none⟩), .int .i64 0, .int .i64 0, .int .i64 n, .bool false, .int .i64 0] 65)) ∧ ∀ i, S i → w.heap.size ≤ i) := fun w1 hq hB n hn => by
    subst hn
    have hs1 := hq.inn (w.heap.size + 1) ⟨by omega, by omega⟩
    refine ⟨fun i => w.heap.size ≤ i ∧ i < w1.heap.size + 1, ⟨⟨w.heap.size + 1, heap_alloc_new w1 _, ?_⟩, ⟨by omega, by omega⟩, fun i hi => by simp; omega, fun i hi => by omega⟩, hB.alloc hB.size _, fun i hi => hi.1⟩
    exact (hq.below ((Below.refl _ w1).alloc (Nat.le_refl _) _)).mono (fun i hi => ⟨⟨hi.1, by have := hq.inn i hi; omega⟩, by have := hq.inn i hi; omega⟩) (fun i hi => by simp; omega) (fun i hi => by omega)
  clear h1 h2 hN
  go_enter Try.func23, Try.ntmps23
  go_wp2_with (go_at_call 45; refine HW.out.mono ?_; rintro r w1 ⟨rfl, hq, hB⟩; have HX := HE.out w1 hq hB; have HX' : Hid _ := HX; clear hq hB HX)
  go_ret
  obtain ⟨S, h⟩ := HX'.out _ rfl
  exact ⟨_, S, rfl, h⟩

theorem NewProgress_none (room next : Int) (w : World) (h : (decide (1 ≤ room) && decide (room ≤ 64)) = false) :
    Calls Try.prog 23 #[.int .i64 next, .int .i64 room] w fun e w' => e = .returned (.pointer none) ∧ w' = w := by
  have HN := newWindow_none room w h
  clear h
  go_enter Try.func23, Try.ntmps23
  go_wp2_with (go_at_call 45; refine HN.mono ?_; rintro e w1 ⟨rfl, rfl⟩)
  go_ret
  exact ⟨rfl, rfl⟩
end Go.Proofs.Ytdgaimiggejleaa
