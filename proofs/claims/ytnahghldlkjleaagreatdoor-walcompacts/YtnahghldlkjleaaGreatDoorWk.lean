/-
  A record changes a ledger: take.
-/
import Derived.Test.YtnahghldlkjleaaGreatDoorWj
namespace Go.Proofs.YtnahghldlkjleaaGreatDoor
open Go.RowKit
set_option linter.unusedVariables false

theorem lawI : Maps.Keyed Tryz.prog 3 := Maps.int_keyed Tryz.underlying3
theorem keyI (k : Nat) (hk : k ≤ 3) : keyOf Tryz.prog 3 (.int .i64 (k : Int)) = some (.int .i64 (k : Int)) :=
  Maps.keyOf_int_mk Tryz.underlying3 (by have : k = 0 ∨ k = 1 ∨ k = 2 ∨ k = 3 := (by omega); rcases this with rfl | rfl | rfl | rfl <;> decide)
theorem zeroF (w : World) : (zeroValue 178).run Tryz.prog w = .ok .nilFunc w := by kernel_rfl
/-- What a record's kind is done by. -/
def chW (k c : Nat) : Value := if k = 0 then .func (.func 154) #[] #[] else if k = 1 then chV 155 c else if k = 2 then chV 156 c else chV 158 c
theorem look_ch {w : World} {mb c b : Nat} (h : w.ownsMap Tryz.prog 3 rdF mb 4 (chD c b)) (k : Nat) (hk : k ≤ 3) : (Instr.lookup 130 (.map (some mb)) (.int .i64 (k : Int)) false).run Tryz.prog w = .ok (chW k c) w := by
  obtain ⟨v, ps, h1, h2⟩ := h.lookup lawI Tryz.underlying130 (zeroF w) (zd := .held .nilFunc) (zp := []) rfl (keyI k hk)
  rw [h1]
  have : k = 0 ∨ k = 1 ∨ k = 2 ∨ k = 3 := by omega
  have e : DataW.held v = (chD c b).atKey (.int .i64 (k : Int)) (.held .nilFunc) := by
    simp only [rdF, Option.some.injEq, Prod.mk.injEq] at h2
    exact h2.1
  rcases this with rfl | rfl | rfl | rfl
  all_goals
    simp [chD, DataW.atKey, Lit.sameKey] at e
    subst e
    rfl

set_option maxRecDepth 100000 in
/-- A head. -/
theorem ch_head (r : Rd) (w : World) : Calls Tryz.prog 154 #[r.val] w fun e w' => e = .returned (.bool true) ∧ Below w.heap.size w w' := by
  unfold Rd.val
  go_enter Tryz.func154, Tryz.ntmps154
  go_wp2
  go_ret
  exact ⟨rfl, (Below.refl _ w).alloc (Nat.le_refl _) _⟩

set_option maxRecDepth 100000 in
set_option maxHeartbeats 4000000 in
theorem take_any {L : Nat → Prop} {w : World} {b : Nat} {P : LP} (h : Lj L w b P) (r : Rd) (hr : r.Fit P) (hx : Ow 0 w r.e.x r.e.d) (hxL : ∀ g, r.e.x.ownBlock = some g → L g) (hfew : P.E.length < 1000000000) :
    Calls Tryz.prog 120 #[.pointer (some ⟨b, 0, none⟩), r.val] w fun e w' => e = .returned (.bool true) ∧ JTh L w w' b (P.take r) := by
  obtain ⟨W1, hW1⟩ : ∃ W1, w.alloc (.cells #[.int .i64 (r.k : Int), .int .i64 (r.sg : Int), .int .i64 r.t, .int .i64 r.v, .int .i64 r.c, .int .i64 r.i, .int .i64 r.tm, .int .i64 r.e.t, .int .i64 r.e.i, .int .i64 r.e.k, r.e.x] 177) = W1 := ⟨_, rfl⟩
  have HW : Hid (_ = W1) := hW1
  have hB0 : Below w.heap.size w W1 := by rw [← hW1]; exact (Below.refl _ w).alloc (Nat.le_refl _) _
  have hR : W1.heap[w.heap.size]? = some (.cells #[.int .i64 (r.k : Int), .int .i64 (r.sg : Int), .int .i64 r.t, .int .i64 r.v, .int .i64 r.c, .int .i64 r.i, .int .i64 r.tm, .int .i64 r.e.t, .int .i64 r.e.i, .int .i64 r.e.k, r.e.x] 177 (0, 0)) := by rw [← hW1]; exact heap_alloc_new w _
  obtain ⟨⟨r0, r1, r2, r3, r4, r5, r6, r7, r8, r9, r10⟩, -⟩ := cells11 hR
  have hB : Below w.heap.size w W1.drew := below_drewN hB0 1
  have h1 := h.below hB
  obtain ⟨va, vc, sa, sc, es, mb, c, hb, ho, hes, hl, hvc, hvm, hsc, hsm, hro, hm, hc, lm, lc, le, ld, ls⟩ := h1.cells
  have c7 : W1.cell? ⟨b, 7, none⟩ = some (.map (some mb)) := (cells8 hb).1.2.2.2.2.2.2.2
  have hlk := look_ch hm r.k hr.kd
  have HX : Hid (Ow 0 W1.drew r.e.x r.e.d) := hx.below hB (Nat.le_refl _)
  obtain ⟨PT, hPT⟩ : ∃ PT, P.take r = PT := ⟨_, rfl⟩
  rw [hPT]
  have HC : Hid (∀ f args, (∃ F c1, chW r.k c = .func (.func F) #[] c1 ∧ f = F ∧ args = #[r.val] ++ c1) → Calls Tryz.prog f args W1.drew fun e w' => e = .returned (.bool true) ∧ JTh L w w' b PT) := by
    rintro f args ⟨F, c1, hF, rfl, rfl⟩
    have hk := hr.kd
    rcases (by omega : r.k = 0 ∨ r.k = 1 ∨ r.k = 2 ∨ r.k = 3) with hk | hk | hk | hk
    · have e : P.take r = P := by unfold LP.take; rw [if_pos hk]
      rw [e] at hPT
      subst hPT
      rw [hk] at hF
      simp [chW] at hF
      obtain ⟨rfl, rfl⟩ := hF
      exact (ch_head r W1.drew).mono fun e w' ⟨he, hw⟩ => ⟨he, h.th (hB.trans (hw.mono hB.size))⟩
    · have e : P.take r = P.state r.t r.v r.c := by unfold LP.take; rw [if_neg (by omega), if_pos hk]
      rw [e] at hPT
      subst hPT
      rw [hk] at hF
      simp [chW, chV] at hF
      obtain ⟨rfl, rfl⟩ := hF
      exact (ch_state h1 hc r hr.st).mono fun e w' ⟨he, hJ⟩ => ⟨he, JTh.of_below h hB fun _ => hJ⟩
    · have e : P.take r = P.enter r.e.says r.sg := by unfold LP.take; rw [if_neg (by omega), if_neg (by omega), if_pos hk]
      rw [e] at hPT
      subst hPT
      rw [hk] at hF
      simp [chW, chV] at hF
      obtain ⟨rfl, rfl⟩ := hF
      exact (ch_entry h1 hc r HX.out hxL (hr.ent hk).1 hr.sg hfew (hr.ent hk).2).mono fun e w' ⟨he, hJ⟩ => ⟨he, JTh.of_below h hB fun _ => hJ⟩
    · have e : P.take r = P.mark r.i r.tm := by unfold LP.take; rw [if_neg (by omega), if_neg (by omega), if_neg (by omega)]
      rw [e] at hPT
      subst hPT
      rw [hk] at hF
      simp [chW, chV] at hF
      obtain ⟨rfl, rfl⟩ := hF
      exact (ch_mark h1 hc r hr.mrk).mono fun e w' ⟨he, hJ⟩ => ⟨he, JTh.of_below h hB fun _ => hJ⟩
  have hk3 := hr.kd
  clear h hr hx hxL hfew hW1 hB0 hR hB h1 hb ho hes hl hvc hvm hsc hsm hro hm hc lm lc le ld ls hPT HX
  unfold Rd.val at HC ⊢
  rcases (by omega : r.k = 0 ∨ r.k = 1 ∨ r.k = 2 ∨ r.k = 3) with hk | hk | hk | hk
  · have hcw : chW r.k c = .func (.func 154) #[] #[] := by rw [hk]; rfl
    rw [hcw] at hlk
    have hc0 := HC.out 154 _ ⟨_, _, hcw, rfl, rfl⟩
    have HC0 : Hid (Calls Tryz.prog 154 #[.agg #[.int .i64 (r.k : Int), .int .i64 (r.sg : Int), .int .i64 r.t, .int .i64 r.v, .int .i64 r.c, .int .i64 r.i, .int .i64 r.tm, .int .i64 r.e.t, .int .i64 r.e.i, .int .i64 r.e.k, r.e.x]] W1.drew fun e w' => e = .returned (.bool true) ∧ JTh L w w' b PT) := hc0
    clear HC hc0 hcw hk hk3
    generalize r.e.x = ex at *
    generalize (r.k : Int) = z at *
    go_enter Tryz.func120, Tryz.ntmps120
    go_upto_region 1 with fail
    rw [HW.out]
    go_region_law (go_simp; go_at_call 154; refine HC0.out.mono ?_; rintro e w2 ⟨rfl, HJ⟩; have HJ : Hid _ := HJ)
    all_goals
      (try go_wp2)
      go_ret
      exact ⟨rfl, HJ.out⟩
  · have hcw : chW r.k c = .func (.func 155) #[] #[.pointer (some ⟨c, 0, none⟩)] := by rw [hk]; rfl
    rw [hcw] at hlk
    have hc0 := HC.out 155 _ ⟨_, _, hcw, rfl, rfl⟩
    have HC0 : Hid (Calls Tryz.prog 155 #[.agg #[.int .i64 (r.k : Int), .int .i64 (r.sg : Int), .int .i64 r.t, .int .i64 r.v, .int .i64 r.c, .int .i64 r.i, .int .i64 r.tm, .int .i64 r.e.t, .int .i64 r.e.i, .int .i64 r.e.k, r.e.x], .pointer (some ⟨c, 0, none⟩)] W1.drew fun e w' => e = .returned (.bool true) ∧ JTh L w w' b PT) := hc0
    clear HC hc0 hcw hk hk3
    generalize r.e.x = ex at *
    generalize (r.k : Int) = z at *
    go_enter Tryz.func120, Tryz.ntmps120
    go_upto_region 1 with fail
    rw [HW.out]
    go_region_law (go_simp; go_at_call 155; refine HC0.out.mono ?_; rintro e w2 ⟨rfl, HJ⟩; have HJ : Hid _ := HJ)
    all_goals
      (try go_wp2)
      go_ret
      exact ⟨rfl, HJ.out⟩
  · have hcw : chW r.k c = .func (.func 156) #[] #[.pointer (some ⟨c, 0, none⟩)] := by rw [hk]; rfl
    rw [hcw] at hlk
    have hc0 := HC.out 156 _ ⟨_, _, hcw, rfl, rfl⟩
    have HC0 : Hid (Calls Tryz.prog 156 #[.agg #[.int .i64 (r.k : Int), .int .i64 (r.sg : Int), .int .i64 r.t, .int .i64 r.v, .int .i64 r.c, .int .i64 r.i, .int .i64 r.tm, .int .i64 r.e.t, .int .i64 r.e.i, .int .i64 r.e.k, r.e.x], .pointer (some ⟨c, 0, none⟩)] W1.drew fun e w' => e = .returned (.bool true) ∧ JTh L w w' b PT) := hc0
    clear HC hc0 hcw hk hk3
    generalize r.e.x = ex at *
    generalize (r.k : Int) = z at *
    go_enter Tryz.func120, Tryz.ntmps120
    go_upto_region 1 with fail
    rw [HW.out]
    go_region_law (go_simp; go_at_call 156; refine HC0.out.mono ?_; rintro e w2 ⟨rfl, HJ⟩; have HJ : Hid _ := HJ)
    all_goals
      (try go_wp2)
      go_ret
      exact ⟨rfl, HJ.out⟩
  · have hcw : chW r.k c = .func (.func 158) #[] #[.pointer (some ⟨c, 0, none⟩)] := by rw [hk]; rfl
    rw [hcw] at hlk
    have hc0 := HC.out 158 _ ⟨_, _, hcw, rfl, rfl⟩
    have HC0 : Hid (Calls Tryz.prog 158 #[.agg #[.int .i64 (r.k : Int), .int .i64 (r.sg : Int), .int .i64 r.t, .int .i64 r.v, .int .i64 r.c, .int .i64 r.i, .int .i64 r.tm, .int .i64 r.e.t, .int .i64 r.e.i, .int .i64 r.e.k, r.e.x], .pointer (some ⟨c, 0, none⟩)] W1.drew fun e w' => e = .returned (.bool true) ∧ JTh L w w' b PT) := hc0
    clear HC hc0 hcw hk hk3
    generalize r.e.x = ex at *
    generalize (r.k : Int) = z at *
    go_enter Tryz.func120, Tryz.ntmps120
    go_upto_region 1 with fail
    rw [HW.out]
    go_region_law (go_simp; go_at_call 158; refine HC0.out.mono ?_; rintro e w2 ⟨rfl, HJ⟩; have HJ : Hid _ := HJ)
    all_goals
      (try go_wp2)
      go_ret
      exact ⟨rfl, HJ.out⟩
end Go.Proofs.YtnahghldlkjleaaGreatDoor
