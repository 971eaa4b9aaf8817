/-
  The document's network: pair, Linked, New.
-/
import Derived.Test.YtefbfjlmhfmiiaaRa
import Derived.ChangeKeysEq
namespace Go.Proofs.Ytefbfjlmhfmiiaa
open Go.RowKit
set_option linter.unusedVariables false

theorem run_eq_int (d : Nat) (a c : Int) (w : World) : (Op.equalIn (d + 1) 3 (.int .i64 a) (.int .i64 c)).run Try.prog w = .ok (a == c) w := by
  simp [Op.equalIn, run_underlying Try.underlying3]
theorem run_part (x y : Value) (w : World) : (part 3 #[x, y] 0).run Try.prog w = .ok x w ∧ (part 3 #[x, y] 1).run Try.prog w = .ok y w := by
  constructor <;> simp [part, isAgg, run_underlying Try.underlying3]
theorem run_eq_pair (a b c d : Int) (w : World) : (Op.equalIn 10000 67 (.agg #[.int .i64 a, .int .i64 b]) (.agg #[.int .i64 c, .int .i64 d])).run Try.prog w = .ok (decide ((a, b) = (c, d))) w := by
  obtain ⟨i0, hi, -⟩ := info_parts (show (Try.prog.info? 3).map (fun i => (i.zero, i.size, i.bytes)) = some (some (.int .i64 0), 1, 8) by kernel_rfl)
  have hc : Try.prog.cellsOf 3 = 1 := by kernel_rfl
  rw [run_equalIn_array (P := Try.prog) w 9999 _ _ Try.underlying67 hi, hc]
  obtain ⟨p1, p2⟩ := run_part (.int .i64 a) (.int .i64 b) w
  obtain ⟨q1, q2⟩ := run_part (.int .i64 c) (.int .i64 d) w
  have h1 := run_eq_int 9998 a c w
  have h2 := run_eq_int 9998 b d w
  show (Op.eqItems 9999 3 1 _ _ [0, 1]).run Try.prog w = _
  simp only [Op.eqItems, Sem.run_bind, Nat.zero_mul, Nat.one_mul, p1, q1, Result.andThen_ok, h1]
  cases hac : (a == c)
  · simp at hac
    simp [hac]
  · simp at hac
    subst hac
    simp only [Bool.not_true, Bool.false_eq_true, if_false, Sem.run_bind, p2, q2, Result.andThen_ok, h2]
    cases hbd : (b == d)
    · simp at hbd
      simp [hbd]
    · simp at hbd
      simp [hbd]
theorem cells2 {w : World} {b : Nat} {t : TypeId} {v0 v1 : Value} (h : w.heap[b]? = some (.cells #[v0, v1] t (0, 0))) : w.cell? ⟨b, 0, none⟩ = some v0 ∧ w.cell? ⟨b, 1, none⟩ = some v1 := by
  refine ⟨?_, ?_⟩
  all_goals (simp only [World.cell?, h]; rfl)

set_option maxRecDepth 100000 in
set_option maxHeartbeats 1000000 in
/-- pair. -/
theorem pair_any (x y : Int) (w : World) : Calls Try.prog 48 #[.int .i64 x, .int .i64 y] w fun e w' => e = .returned (.agg #[.int .i64 (pairOf x y).1, .int .i64 (pairOf x y).2]) ∧ Below w.heap.size w w' := by
  have HB : Hid (∀ o, Below w.heap.size w (w.alloc o)) := fun o => (Below.refl _ w).alloc (Nat.le_refl _) _
  obtain ⟨p, hp⟩ : ∃ p, pairOf x y = p := ⟨_, rfl⟩
  have HP : Hid (pairOf x y = p) := hp
  rw [hp]
  clear hp
  by_cases h : x ≤ y
  · have HQ : Hid (p = (x, y)) := by show _ = _; rw [← HP.out]; unfold pairOf; rw [Int.min_eq_left h, Int.max_eq_right h]
    obtain ⟨p1, p2⟩ := p
    have h9 := HQ.out
    simp only [Prod.mk.injEq] at h9
    obtain ⟨rfl, rfl⟩ := h9
    clear HQ HP
    go_enter Try.func48, Try.ntmps48
    go_wp2
    all_goals (go_returns; exact ⟨by first | rfl | (simp; omega), HB.out _⟩)
  · have h' : y < x := by omega
    have HQ : Hid (p = (y, x)) := by show _ = _; rw [← HP.out]; unfold pairOf; rw [Int.min_eq_right (by omega), Int.max_eq_left (by omega)]
    obtain ⟨p1, p2⟩ := p
    have h9 := HQ.out
    simp only [Prod.mk.injEq] at h9
    obtain ⟨rfl, rfl⟩ := h9
    clear HQ HP h
    go_enter Try.func48, Try.ntmps48
    go_wp2
    all_goals (go_returns; exact ⟨by first | rfl | (simp; omega), HB.out _⟩)

theorem pairOf_comm (a b : Int) : pairOf a b = pairOf b a := by unfold pairOf; rw [Int.min_comm, Int.max_comm]
theorem PN.lnk_cut {P : PN} {C : List Pr} (h : CutOk P C) (a b : Int) : P.lnk a b = (P.two a b && !decide (pairOf a b ∈ C)) := by
  unfold PN.lnk
  cases ht : P.two a b
  · rfl
  · have := h a b ht
    cases hl : lk P.L a b
    · have h1 := this.1 hl
      simp [h1]
    · have h1 : ¬ pairOf a b ∈ C := fun hc => by have := this.2 hc; rw [hl] at this; simp at this
      simp [h1]

set_option maxRecDepth 100000 in
set_option maxHeartbeats 4000000 in
/-- Linked. -/
theorem RLinked_any {N : Nat} {S : Nat → Prop} {w : World} {b : Nat} {P : PN} {C : List Pr} (h : Rn N S w b P C) (x y : Int) (hC : C.length ≤ 100000) :
    Calls Try.prog 37 #[.pointer (some ⟨b, 0, none⟩), .int .i64 x, .int .i64 y] w fun e w' => e = .returned (.bool (P.lnk x y)) ∧ Below w.heap.size w w' := by
  have HH : Hid (Rn N S w b P C) := h
  obtain ⟨va, vn, es, ca, cn, hm, hl, -, -, -, -, -⟩ := h.cells
  have hbw := h.inn _ h.Sb
  have HBLK : Hid (w.heap[b]? = some (.cells #[.int .i64 P.n, .slice va P.E.length vn, .int .i64 P.k, .slice ca C.length cn] 39 (0, 0))) := hm.blk
  have HCUT : Hid (POw 0 w (.slice ca C.length cn) C) := hm.cut
  have HLC := PN.lnk_cut h.cok x y
  obtain ⟨u, hu⟩ : ∃ u, P.lnk x y = u := ⟨_, rfl⟩
  have HU : Hid (u = (P.two x y && !decide (pairOf x y ∈ C))) := by show _ = _; rw [← hu]; exact HLC
  rw [hu]
  clear h hm HLC hu
  go_enter Try.func37, Try.ntmps37
  go_wp2_with fail
  go_loopw [7] (fun iv wr => ∃ k : Nat, iv = .int .i64 (k : Int) ∧ k ≤ C.length ∧ (∀ j, j < k → C.getD j (0, 0) ≠ pairOf x y) ∧ Below w.heap.size w wr) (fun iv _ => C.length - (intOf iv).toNat)
  case atStart => exact ⟨0, rfl, Nat.zero_le _, fun j hj => by omega, Below.refl _ _⟩
  case round =>
    obtain ⟨k, rfl, hk, hj, hB⟩ := hrel
    have HJ : Hid (∀ j, j < k → C.getD j (0, 0) ≠ pairOf x y) := hj
    have HB : Hid (Below w.heap.size w wr) := hB
    obtain ⟨⟨-, -, -, c3⟩, -⟩ := cells4 ((hB.block b hbw).trans HBLK.out)
    have hbr : b < wr.heap.size := Nat.lt_of_lt_of_le hbw hB.size
    clear hj hB
    by_cases hlt : k < C.length
    · obtain ⟨g, rfl, hg, g0, g1⟩ := HCUT.out.at hlt
      have d0 := (HB.out.cell (p := ⟨g, k * 2, none⟩) hg).trans g0
      have d1 := (HB.out.cell (p := ⟨g, k * 2 + 1, none⟩) hg).trans g1
      obtain ⟨q, hq⟩ : ∃ q, C.getD k (0, 0) = q := ⟨_, rfl⟩
      have HQ : Hid (C.getD k (0, 0) = q) := hq
      rw [hq] at d0 d1
      have i0 : (0 : Int) ≤ (k : Int) := by omega
      have i1 : (k : Int) < (C.length : Int) := by omega
      have hgr : g < wr.heap.size := Nat.lt_of_lt_of_le hg HB.out.size
      have HPA : Hid (Calls Try.prog 48 #[.int .i64 x, .int .i64 y] wr.drew fun e w' => e = .returned (.agg #[.int .i64 (pairOf x y).1, .int .i64 (pairOf x y).2]) ∧ Below wr.heap.size wr w') := (pair_any x y wr.drew).mono fun e w' ⟨h1, h2⟩ => ⟨h1, ⟨h2.os, h2.tape, h2.output, h2.size, h2.block⟩⟩
      have HCC : Hid (∀ w2, Below wr.heap.size wr w2 → (w2.cell? ⟨b, 3, none⟩ = some (.slice (some ⟨g, 0, none⟩) C.length cn) ∧ w2.cell? ⟨g, k * 2, none⟩ = some (.int .i64 q.1) ∧ w2.cell? ⟨g, k * 2 + 1, none⟩ = some (.int .i64 q.2))) := fun w2 h2 => ⟨(h2.cell (p := ⟨b, 3, none⟩) hbr).trans c3, (h2.cell (p := ⟨g, k * 2, none⟩) hgr).trans d0, (h2.cell (p := ⟨g, k * 2 + 1, none⟩) hgr).trans d1⟩
      have HEQ : Hid (q = pairOf x y ∨ q ≠ pairOf x y) := Decidable.em _
      clear g0 g1 hq
      rcases HEQ.out with he | he
      · have HE : Hid (q = pairOf x y) := he
        have HUF : Hid (u = false) := by
          show _ = _
          rw [HU.out]
          have hmem : pairOf x y ∈ C := by
            rw [← he, ← HQ.out, List.getD_eq_getElem?_getD, List.getElem?_eq_getElem hlt]
            exact List.getElem_mem hlt
          simp [hmem]
        clear he
        have heq : ∀ W : World, (Op.equalIn 10000 67 (.agg #[.int .i64 q.1, .int .i64 q.2]) (.agg #[.int .i64 (pairOf x y).1, .int .i64 (pairOf x y).2])).run Try.prog W = .ok true W := fun W => by
          rw [run_eq_pair]
          congr 1
          simp [HE.out]
        clear HEQ
        generalize pairOf x y = pp at *
        go_wp2_with fail
        go_region_held3 (fun w2 => w2.cell? ⟨b, 3, none⟩ = some (.slice (some ⟨g, 0, none⟩) C.length cn) ∧ w2.cell? ⟨g, k * 2, none⟩ = some (.int .i64 q.1) ∧ w2.cell? ⟨g, k * 2 + 1, none⟩ = some (.int .i64 q.2)) (go_keep)
          (first
            | (go_at_call 48; refine HPA.out.mono ?_; rintro r w2 ⟨rfl, hB2⟩; obtain ⟨s0, s1, s2⟩ := HCC.out w2 hB2; have HB2 : Hid (Below w.heap.size w w2) := HB.out.trans (hB2.mono HB.out.size); clear hB2)
            | fail)
        go_wp2
        go_ret
        exact ⟨by rw [HUF.out]; rfl, HB2.out⟩
      · have HE : Hid (q ≠ pairOf x y) := he
        have HJ2 : Hid (∀ j, j < k + 1 → C.getD j (0, 0) ≠ pairOf x y) := fun j hj => by
          by_cases e : j = k
          · subst e; rw [HQ.out]; exact he
          · exact HJ.out j (by omega)
        clear he
        have heq : ∀ W : World, (Op.equalIn 10000 67 (.agg #[.int .i64 q.1, .int .i64 q.2]) (.agg #[.int .i64 (pairOf x y).1, .int .i64 (pairOf x y).2])).run Try.prog W = .ok false W := fun W => by
          rw [run_eq_pair]
          congr 1
          simp [HE.out]
        clear HEQ
        generalize pairOf x y = pp at *
        go_wp2_with fail
        go_region_held3 (fun w2 => w2.cell? ⟨b, 3, none⟩ = some (.slice (some ⟨g, 0, none⟩) C.length cn) ∧ w2.cell? ⟨g, k * 2, none⟩ = some (.int .i64 q.1) ∧ w2.cell? ⟨g, k * 2 + 1, none⟩ = some (.int .i64 q.2)) (go_keep)
          (first
            | (go_at_call 48; refine HPA.out.mono ?_; rintro r w2 ⟨rfl, hB2⟩; obtain ⟨s0, s1, s2⟩ := HCC.out w2 hB2; have HB2 : Hid (Below w.heap.size w w2) := HB.out.trans (hB2.mono HB.out.size); clear hB2)
            | fail)
        go_wp2
        exact ⟨⟨k + 1, by go_num, by omega, HJ2.out, HB2.out⟩, by simp [intOf]; omega⟩
    · have hke : (C.length : Int) ≤ (k : Int) := by omega
      have HUT : Hid (u = P.two x y) := by
        show _ = _
        rw [HU.out]
        have hmem : ¬ pairOf x y ∈ C := fun hm => by
          obtain ⟨j, hj, e⟩ := List.mem_iff_getElem.1 hm
          refine HJ.out j (by omega) ?_
          rw [List.getD_eq_getElem?_getD, List.getElem?_eq_getElem hj]
          exact e
        simp [hmem]
      have HTW : Hid (Calls _ _ _ _ _) := rtwo_any (HH.out.below HB.out) x y
      go_wp2_with fail
      refine HTW.out.mono ?_
      rintro r w2 ⟨rfl, hw⟩
      subst w2
      go_wp2
      go_ret
      exact ⟨by rw [HUT.out]; rfl, HB.out⟩

/-- A new one. -/
theorem Rn.made {n : Int} (n1 : 1 ≤ n) (n7 : n ≤ 7) {L : List Bool} (hok : (newN n L).Ok) (hLA : LA n L) (w : World) : Rn w.heap.size (fun i => i = w.heap.size) (w.alloc (.cells #[.int .i64 n, .slice none 0 0, .int .i64 0, .slice none 0 0] 39)) w.heap.size (newN n L) [] := by
  refine ⟨⟨.slice none 0 0, [], .slice none 0 0, ⟨heap_alloc_new w _, MlsOw.nil _ _ _, rfl, POw.nil _ _⟩, by simp [Value.ownBlock], by simp, by simp [Value.ownBlock]⟩, hok, fun a b ht => ?_, rfl, fun i hi => by simp [hi], fun i hi => by omega⟩
  obtain ⟨a1, a2, b1, b2, hne⟩ := PN.two_of hok ht
  simp only [PN.two, PN.has, Bool.and_eq_true, decide_eq_true_eq, bne_iff_ne] at ht
  have hn : (newN n L).n = n := rfl
  rw [hn] at ht
  obtain ⟨i, rfl⟩ : ∃ i : Nat, a = (i : Int) := ⟨a.toNat, by omega⟩
  obtain ⟨j, rfl⟩ : ∃ j : Nat, b = (j : Int) := ⟨b.toNat, by omega⟩
  have h1 := hLA i j (by omega) (by omega)
  have h2 : lk (newN n L).L (i : Int) (j : Int) = L.getD (8 * i + j) false := rfl
  rw [h2, h1]
  have h3 : (1 ≤ i ∧ 1 ≤ j ∧ i ≠ j ∧ (i : Int) ≤ n ∧ (j : Int) ≤ n) := by omega
  simp [h3]

set_option maxRecDepth 100000 in
set_option maxHeartbeats 4000000 in
theorem RNew_any (n : Int) (n1 : 1 ≤ n) (n7 : n ≤ 7) {L : List Bool} (hok : (newN n L).Ok) (hLA : LA n L) (w : World) : Calls Try.prog 10 #[.int .i64 n] w fun e w' => ∃ b S, e = .returned (.pointer (some ⟨b, 0, none⟩)) ∧ Rn w.heap.size S w' b (newN n L) [] ∧ Below w.heap.size w w' := by
  have h1' : ¬ n < 1 := by omega
  have h2' : ¬ 7 < n := by omega
  have HM : Hid (Rn w.heap.size (fun i => i = w.heap.size) (w.alloc (.cells #[.int .i64 n, .slice none 0 0, .int .i64 0, .slice none 0 0] 39)) w.heap.size (newN n L) []) := Rn.made n1 n7 hok hLA w
  have HB : Hid (∀ o, Below w.heap.size w (w.alloc o)) := fun o => (Below.refl _ w).alloc (Nat.le_refl _) _
  clear hok hLA
  go_enter Try.func10, Try.ntmps10
  go_wp2
  go_ret
  exact ⟨w.heap.size, rfl, ⟨_, HM.out⟩, HB.out _⟩
theorem RNew_no (n : Int) (hn : ¬ (1 ≤ n ∧ n ≤ 7)) (w : World) : Calls Try.prog 10 #[.int .i64 n] w fun e w' => e = .returned (.pointer none) ∧ w' = w := by
  by_cases h1 : n < 1
  · go_enter Try.func10, Try.ntmps10
    go_wp2
    go_ret
    exact ⟨rfl, rfl⟩
  · have h2 : 7 < n := by omega
    go_enter Try.func10, Try.ntmps10
    go_wp2
    go_ret
    exact ⟨rfl, rfl⟩
end Go.Proofs.Ytefbfjlmhfmiiaa
