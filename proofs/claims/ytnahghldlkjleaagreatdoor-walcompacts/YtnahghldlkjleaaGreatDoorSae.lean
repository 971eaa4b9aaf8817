/-
  SameTexts of the same; SameEntry, SameEntries of the same.
-/
import Derived.Test.YtnahghldlkjleaaGreatDoorWA
import Derived.Test.YtnahghldlkjleaaGreatDoorXjr
namespace Go.Proofs.YtnahghldlkjleaaGreatDoor
open Go.RowKit
set_option linter.unusedVariables false

/-- Texts at a place. -/
def TxAt (w : World) (a : Option Addr) (ts : List (List UInt8)) : Prop := ts = [] ∨ ∃ b off, a = some ⟨b, off, none⟩ ∧ ∀ i (hi : i < ts.length), w.cell? ⟨b, off + i, none⟩ = some (.string ⟨(ts[i]).toArray⟩)

set_option maxRecDepth 100000 in
set_option maxHeartbeats 1000000 in
theorem sameTexts_yes (w : World) (a a' : Option Addr) (c c' : Nat) (ts : List (List UInt8)) (h : TxAt w a ts) (h' : TxAt w a' ts) (hl : ts.length ≤ 1000000000) :
    Calls Tryz.prog 39 #[.slice a ts.length c, .slice a' ts.length c'] w fun e w' => e = .returned (.bool true) ∧ ∃ q, w' = w.drewN q := by
  have HC : Hid (∀ i, i < ts.length → ∃ b off b' off' s, a = some ⟨b, off, none⟩ ∧ a' = some ⟨b', off', none⟩ ∧ ∀ q, (w.drewN q).cell? ⟨b, off + i, none⟩ = some (.string s) ∧ (w.drewN q).cell? ⟨b', off' + i, none⟩ = some (.string s)) := fun i hi => by
    rcases h with h | ⟨b, off, h1, h2⟩
    · rw [h] at hi; simp at hi
    rcases h' with h' | ⟨b', off', h1', h2'⟩
    · rw [h'] at hi; simp at hi
    exact ⟨b, off, b', off', _, h1, h1', fun q => ⟨h2 i hi, h2' i hi⟩⟩
  clear h h'
  generalize ts.length = n at *
  go_enter Tryz.func39, Tryz.ntmps39
  go_wp2_with fail
  go_loopw [5] (fun v5 wr => ∃ i : Nat, v5 = .int .i64 (i : Int) ∧ i ≤ n ∧ ∃ q, wr = w.drewN q) (fun i _ => n - (intOf i).toNat)
  case atStart => exact ⟨0, rfl, Nat.zero_le _, 0, rfl⟩
  case round =>
    obtain ⟨i, rfl, hi, q, hw⟩ := hrel
    have HQ : Hid (wr = w.drewN q) := hw
    by_cases hlt : i < n
    · obtain ⟨b, off, b', off', s, rfl, rfl, hcc⟩ := HC.out i hlt
      obtain ⟨k0, k1⟩ := hcc q
      rw [← hw] at k0 k1
      clear HC hcc hw
      go_wp2_with fail
      go_quiet (fail)
      go_wp2_with fail
      exact ⟨⟨i + 1, by go_num, by omega, by rw [HQ.out]; exact ⟨_, World.drewN_drewN _ _ _⟩⟩, by simp [intOf]; omega⟩
    · have hie : i = n := by omega
      subst hie
      clear HC hw
      go_wp2_with fail
      go_ret
      exact ⟨rfl, q, HQ.out⟩
end Go.Proofs.YtnahghldlkjleaaGreatDoor
namespace Go.Proofs.YtnahghldlkjleaaGreatDoor
open Go.RowKit
set_option linter.unusedVariables false

set_option maxRecDepth 100000 in
set_option maxHeartbeats 1000000 in
theorem sameEntry_yes (e e' : Ent) (w : World) (hs : e.says = e'.says) (h1 : Sl w.heap.size w e.x e.d) (h2 : Sl w.heap.size w e'.x e'.d) :
    Calls Tryz.prog 84 #[e.v, e'.v] w fun r w' => r = .returned (.bool true) ∧ Below w.heap.size w w' := by
  obtain ⟨t, i, k, a, c, d⟩ := e
  obtain ⟨t', i', k', a', c', d'⟩ := e'
  simp only [Ent.says, Prod.mk.injEq] at hs
  obtain ⟨rfl, rfl, rfl, rfl⟩ := hs
  unfold Ent.v Ent.x at *
  simp only at h1 h2 ⊢
  obtain ⟨W0, hW0⟩ : ∃ W0, (w.alloc (.cells #[.int .i64 t, .int .i64 i, .int .i64 k, .slice a d.length c] 88)).alloc (.cells #[.int .i64 t, .int .i64 i, .int .i64 k, .slice a' d.length c'] 88) = W0 := ⟨_, rfl⟩
  have HW : Hid (_ = W0) := hW0
  have hB : Below w.heap.size w W0 := by rw [← hW0]; exact ((Below.refl _ w).alloc (Nat.le_refl _) _).alloc (by simp) _
  have hx0 : W0.heap[w.heap.size]? = some (.cells #[.int .i64 t, .int .i64 i, .int .i64 k, .slice a d.length c] 88 (0, 0)) := by rw [← hW0]; exact (two_new w _ _).1
  have hx1 : W0.heap[w.heap.size + 1]? = some (.cells #[.int .i64 t, .int .i64 i, .int .i64 k, .slice a' d.length c'] 88 (0, 0)) := by rw [← hW0]; exact (two_new w _ _).2
  obtain ⟨⟨x0, x1, x2, x3⟩, -⟩ := cells4' hx0
  obtain ⟨⟨y0, y1, y2, y3⟩, -⟩ := cells4' hx1
  have HS : Hid (Calls Tryz.prog 83 #[.slice a d.length c, .slice a' d.length c'] W0 fun e w' => e = .returned (.bool true) ∧ (w'.cell? ⟨w.heap.size, 0, none⟩ = some (.int .i64 t) ∧ w'.cell? ⟨w.heap.size, 1, none⟩ = some (.int .i64 i) ∧ w'.cell? ⟨w.heap.size, 2, none⟩ = some (.int .i64 k)) ∧ (w'.cell? ⟨w.heap.size + 1, 0, none⟩ = some (.int .i64 t) ∧ w'.cell? ⟨w.heap.size + 1, 1, none⟩ = some (.int .i64 i) ∧ w'.cell? ⟨w.heap.size + 1, 2, none⟩ = some (.int .i64 k)) ∧ Hid (Below w.heap.size w w')) := by
    have := same_any w.heap.size (.slice a d.length c) (.slice a' d.length c') d d W0 (h1.below hB) (h2.below hB)
    rw [show decide (d = d) = true by simp] at this
    refine this.mono ?_
    rintro e w' ⟨rfl, q, rfl⟩
    exact ⟨rfl, ⟨x0, x1, x2⟩, ⟨y0, y1, y2⟩, below_drewN hB q⟩
  clear h1 h2 hW0 hB hx0 hx1 x0 x1 x2 y0 y1 y2
  generalize d.length = n at *
  go_enter Tryz.func84, Tryz.ntmps84
  go_upto_region 1 with fail
  rw [HW.out]
  go_wp2_with (go_at_call 83; refine HS.out.mono ?_; rintro e w1 ⟨rfl, ⟨x0, x1, x2⟩, ⟨y0, y1, y2⟩, HB⟩)
  go_ret
  exact ⟨by simp, HB.out⟩

set_option maxRecDepth 100000 in
set_option maxHeartbeats 1000000 in
theorem sameEntries_yes (w : World) (a a' : Option Addr) (c c' : Nat) (es es' : List Ent) (hs : es.map Ent.says = es'.map Ent.says) (h1 : EntsAt w.heap.size w a es) (h2 : EntsAt w.heap.size w a' es') (hl : es.length ≤ 1000000000) :
    Calls Tryz.prog 40 #[.slice a es.length c, .slice a' es'.length c'] w fun e w' => e = .returned (.bool true) ∧ Below w.heap.size w w' := by
  have hll : es'.length = es.length := by have := congrArg List.length hs; simpa using this.symm
  have HC : Hid (∀ i, i < es.length → ∃ b off b' off' e e', a = some ⟨b, off, none⟩ ∧ a' = some ⟨b', off', none⟩ ∧ ∀ W, Below w.heap.size w W → (W.cell? ⟨b, off + i * 4, none⟩ = some (.int .i64 (e : Ent).t) ∧ W.cell? ⟨b, off + i * 4 + 1, none⟩ = some (.int .i64 e.i) ∧ W.cell? ⟨b, off + i * 4 + 2, none⟩ = some (.int .i64 e.k) ∧ W.cell? ⟨b, off + i * 4 + 3, none⟩ = some e.x) ∧ (W.cell? ⟨b', off' + i * 4, none⟩ = some (.int .i64 (e' : Ent).t) ∧ W.cell? ⟨b', off' + i * 4 + 1, none⟩ = some (.int .i64 e'.i) ∧ W.cell? ⟨b', off' + i * 4 + 2, none⟩ = some (.int .i64 e'.k) ∧ W.cell? ⟨b', off' + i * 4 + 3, none⟩ = some e'.x) ∧ Calls Tryz.prog 84 #[.agg #[.int .i64 e.t, .int .i64 e.i, .int .i64 e.k, e.x], .agg #[.int .i64 e'.t, .int .i64 e'.i, .int .i64 e'.k, e'.x]] W fun r w' => r = .returned (.bool true) ∧ Below W.heap.size W w') := fun i hi => by
    obtain ⟨b, off, ha, hb, q0, q1, q2, q3, q4⟩ := h1.at hi
    obtain ⟨b', off', ha', hb', p0, p1, p2, p3, p4⟩ := h2.at (i := i) (by omega)
    have hsy : (es.getD i nilEnt).says = (es'.getD i nilEnt).says := by rw [← says_getD, ← says_getD, hs]
    refine ⟨b, off, b', off', _, _, ha, ha', fun W hB => ⟨⟨(hB.cell (p := ⟨b, off + i * 4, none⟩) hb).trans q0, (hB.cell (p := ⟨b, off + i * 4 + 1, none⟩) hb).trans q1, (hB.cell (p := ⟨b, off + i * 4 + 2, none⟩) hb).trans q2, (hB.cell (p := ⟨b, off + i * 4 + 3, none⟩) hb).trans q3⟩, ⟨(hB.cell (p := ⟨b', off' + i * 4, none⟩) hb').trans p0, (hB.cell (p := ⟨b', off' + i * 4 + 1, none⟩) hb').trans p1, (hB.cell (p := ⟨b', off' + i * 4 + 2, none⟩) hb').trans p2, (hB.cell (p := ⟨b', off' + i * 4 + 3, none⟩) hb').trans p3⟩, ?_⟩⟩
    exact sameEntry_yes _ _ W hsy ((q4.below hB).mono hB.size) ((p4.below hB).mono hB.size)
  rw [hll]
  clear h1 h2 hs hll
  generalize es.length = n at *
  go_enter Tryz.func40, Tryz.ntmps40
  go_wp2_with fail
  go_loopw [5] (fun v5 wr => ∃ i : Nat, v5 = .int .i64 (i : Int) ∧ i ≤ n ∧ Hid (Below w.heap.size w wr)) (fun i _ => n - (intOf i).toNat)
  case atStart => exact ⟨0, rfl, Nat.zero_le _, Below.refl _ _⟩
  case round =>
    obtain ⟨i, rfl, hi, HB⟩ := hrel
    by_cases hlt : i < n
    · obtain ⟨b, off, b', off', e, e', rfl, rfl, hcc⟩ := HC.out i hlt
      obtain ⟨⟨k0, k1, k2, k3⟩, ⟨m0, m1, m2, m3⟩, -⟩ := hcc wr HB.out
      have HX : Hid (∀ W, Below wr.heap.size wr W → Calls Tryz.prog 84 #[.agg #[.int .i64 e.t, .int .i64 e.i, .int .i64 e.k, e.x], .agg #[.int .i64 e'.t, .int .i64 e'.i, .int .i64 e'.k, e'.x]] W fun r w' => r = .returned (.bool true) ∧ Hid (Below w.heap.size w w')) := fun W hB => ((hcc W (HB.out.trans (hB.mono HB.out.size))).2.2).mono fun r w' ⟨h8, h9⟩ => ⟨h8, (HB.out.trans (hB.mono HB.out.size)).trans (h9.mono (HB.out.trans (hB.mono HB.out.size)).size)⟩
      clear HC hcc
      unfold Ent.x at k3 m3 HX
      go_wp2_with fail
      go_region_law ((try go_simp); (try go_at_call 84); refine Calls.mono (HX.out _ (by (repeat (first | (with_reducible refine bel_alloc' ?_ _) | (with_reducible refine bel_drew' ?_) | (with_reducible refine bel_drewN' ?_ _))); exact Below.refl _ _)) ?_; rintro r w2 ⟨rfl, HB2⟩)
      all_goals
        (try go_wp2)
        exact ⟨⟨i + 1, by go_num, by omega, HB2⟩, by simp [intOf]; omega⟩
    · have hie : i = n := by omega
      subst hie
      clear HC
      go_wp2_with fail
      go_ret
      exact ⟨rfl, HB.out⟩
end Go.Proofs.YtnahghldlkjleaaGreatDoor
