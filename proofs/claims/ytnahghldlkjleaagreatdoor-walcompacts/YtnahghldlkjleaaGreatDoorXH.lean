/-
  An entry in memory of its own. A batch; does it have a mark that is news?
-/
import Derived.Test.YtnahghldlkjleaaGreatDoorWC
import Derived.Test.YtnahghldlkjleaaGreatDoorXD
namespace Go.Proofs.YtnahghldlkjleaaGreatDoor
open Go.RowKit
set_option linter.unusedVariables false

theorem results_E {fn : Func} {t : Tmp} (h : fn.results = #[.cell t 88]) (tmps : Array Value) (w : World) (B : Nat) {x0 x1 x2 x3 : Value} (ht : tmps.getD t undef = .pointer (some ⟨B, 0, none⟩)) (hb : w.heap[B]? = some (.cells #[x0, x1, x2, x3] 88 (0, 0))) :
    (results fn tmps).run Tryz.prog w = .ok (.agg #[x0, x1, x2, x3]) w := by
  obtain ⟨⟨c0, c1, c2, c3⟩, -⟩ := cells4' hb
  have ht' : tmps[t]?.getD undef = .pointer (some ⟨B, 0, none⟩) := by rw [← Array.getD_eq_getD_getElem?]; exact ht
  simp [results, h, ht', asAddr, loadVar, c0, c1, c2, c3, go_sem]
theorem set4 {w : World} {B : Nat} {x0 x1 x2 x3 : Value} {t : TypeId} (h : w.heap[B]? = some (.cells #[x0, x1, x2, x3] t (0, 0))) (y0 y1 y2 y3 : Value) :
    ((((w.setCell ⟨B, 0, none⟩ y0).setCell ⟨B, 1, none⟩ y1).setCell ⟨B, 2, none⟩ y2).setCell ⟨B, 3, none⟩ y3).heap[B]? = some (.cells #[y0, y1, y2, y3] t (0, 0)) := by
  rw [heap_set (heap_set (heap_set (heap_set h 0 y0) 1 y1) 2 y2) 3 y3]; rfl

set_option maxRecDepth 100000 in
set_option maxHeartbeats 1000000 in
theorem own_any (e : Ent) (w : World) (hx : Sl w.heap.size w e.x e.d) (hl : e.d.length ≤ 1000000000) :
    Calls Tryz.prog 77 #[e.v] w fun r w' => ∃ e' : Ent, r = .returned e'.v ∧ e'.says = e.says ∧ Ow w.heap.size w' e'.x e'.d ∧ Below w.heap.size w w' := by
  obtain ⟨et, ei, ek, ea, ec, ed⟩ := e
  unfold Ent.v Ent.x at *
  unfold Ent.says
  simp only at hx hl ⊢
  obtain ⟨W0, hW0⟩ : ∃ W0, (w.alloc (.cells #[.int .i64 et, .int .i64 ei, .int .i64 ek, .slice ea ed.length ec] 88)).alloc (.cells #[.int .i64 0, .int .i64 0, .int .i64 0, .slice none 0 0] 88) = W0 := ⟨_, rfl⟩
  have HW : Hid (_ = W0) := hW0
  have HB : Hid (Below w.heap.size w W0) := by show Below _ _ _; rw [← hW0]; exact ((Below.refl _ w).alloc (Nat.le_refl _) _).alloc (by simp) _
  have HZ : Hid (W0.heap.size = w.heap.size + 2) := by show _ = _; rw [← hW0]; simp
  have HX0 : Hid (W0.heap[w.heap.size]? = some (.cells #[.int .i64 et, .int .i64 ei, .int .i64 ek, .slice ea ed.length ec] 88 (0, 0))) := by
    show _ = _
    rw [← hW0]; exact (heap_alloc_old _ _ (by simp)).trans (heap_alloc_new w _)
  have HX1 : Hid (W0.heap[w.heap.size + 1]? = some (.cells #[.int .i64 0, .int .i64 0, .int .i64 0, .slice none 0 0] 88 (0, 0))) := by
    show _ = _
    rw [← hW0]
    have := heap_alloc_new (w.alloc (.cells #[.int .i64 et, .int .i64 ei, .int .i64 ek, .slice ea ed.length ec] 88)) (.cells #[.int .i64 0, .int .i64 0, .int .i64 0, .slice none 0 0] 88)
    rwa [World.size_alloc] at this
  have HS : Hid (Sl w.heap.size W0 (.slice ea ed.length ec) ed) := hx.below HB.out
  obtain ⟨⟨c0, c1, c2, c3⟩, -⟩ := cells4' HX0.out
  have hel : ed.length ≤ 1099511627776 := by omega
  clear hW0 hx hl
  go_enter Tryz.func77, Tryz.ntmps77
  go_upto_region 1 with fail
  rw [HW.out]
  go_wp2_with (at_builtin; refine wpList_append_ow rfl _ _ rfl W0.heap.size w.heap.size (.slice none 0 0) (.slice ea ed.length ec) [] ed rfl (Ow.nil _ _) rfl HS.out (by simpa using hel) (Nat.le_refl _) ?_; intro d' w1 r1 r2 r3; obtain ⟨a', c', rfl, -⟩ := r1.shape; have hx0 : w1.heap[w.heap.size]? = _ := (r2.block _ (by have := HZ.out; omega) (by simp [Value.ownBlock])).trans HX0.out; have hx1 : w1.heap[w.heap.size + 1]? = _ := (r2.block _ (by have := HZ.out; omega) (by simp [Value.ownBlock])).trans HX1.out; obtain ⟨⟨d0, d1, d2, d3⟩, df⟩ := cells4' hx0; obtain ⟨⟨g0, g1, g2, g3⟩, gf⟩ := cells4' hx1; have HY1 : Hid _ := hx1; have HX : Hid _ := hx0; have HO : Hid _ := r1; have HG : Hid _ := r2; clear hx0 hx1 r1 r2 r3)
  have hy : (w1.setCell ⟨w.heap.size, 3, none⟩ (.slice a' ed.length c')).heap[w.heap.size + 1]? = some (.cells #[.int .i64 0, .int .i64 0, .int .i64 0, .slice none 0 0] 88 (0, 0)) := (Below.heap_setCell _ _ _ _ (by simp)).trans HY1.out
  refine bodyPost_ret (results_E rfl _ _ (w.heap.size + 1) rfl (set4 hy _ _ _ _)) rfl ?_
  have hB1 : Below w.heap.size w w1 := HB.out.trans ⟨HG.out.os, HG.out.tape, HG.out.output, by have := HZ.out; have := HG.out.size; omega, fun i hi => HG.out.block i (by have := HZ.out; omega) (by simp [Value.ownBlock])⟩
  have hO1 : Ow w.heap.size w1 (.slice a' ed.length c') ed := by
    have := Ow.base (N := W0.heap.size) (N' := w.heap.size) HO.out (by have := HZ.out; omega)
    simpa using this
  have oo : Out (fun i => i = w.heap.size ∨ i = w.heap.size + 1) w1 (((((w1.setCell ⟨w.heap.size, 3, none⟩ (.slice a' ed.length c')).setCell ⟨w.heap.size + 1, 0, none⟩ (.int .i64 et)).setCell ⟨w.heap.size + 1, 1, none⟩ (.int .i64 ei)).setCell ⟨w.heap.size + 1, 2, none⟩ (.int .i64 ek)).setCell ⟨w.heap.size + 1, 3, none⟩ (.slice a' ed.length c')) :=
    (((((Out.refl (fun i => i = w.heap.size ∨ i = w.heap.size + 1) w1).put (.inl rfl)).put (.inr rfl)).put (.inr rfl)).put (.inr rfl)).put (.inr rfl)
  have hx0 : w1.heap[w.heap.size]? = some (.cells #[.int .i64 et, .int .i64 ei, .int .i64 ek, .slice ea ed.length ec] 88 (0, 0)) := HX.out
  refine ⟨⟨et, ei, ek, a', c', ed⟩, rfl, rfl, hO1.out oo (fun g hg => ?_), bel_set' (bel_set' (bel_set' (bel_set' (bel_set' hB1 (Nat.le_refl _)) (Nat.le_succ _)) (Nat.le_succ _)) (Nat.le_succ _)) (Nat.le_succ _)⟩
  rintro (rfl | rfl)
  · exact hO1.not_at' hx0 (fun c z e => by cases e) hg
  · exact hO1.not_at' HY1.out (fun c z e => by cases e) hg
end Go.Proofs.YtnahghldlkjleaaGreatDoor
namespace Go.Proofs.YtnahghldlkjleaaGreatDoor
open Go.RowKit
set_option linter.unusedVariables false

/-- A batch, as it lies in memory. -/
structure Bt where
  has : Bool
  t : Int
  v : Int
  c : Int
  i : Int
  tm : Int
  a : Option Addr
  cp : Nat
  es : List Ent
def Bt.val (b : Bt) : Value := .agg #[.bool b.has, .int .i64 b.t, .int .i64 b.v, .int .i64 b.c, .int .i64 b.i, .int .i64 b.tm, .slice b.a b.es.length b.cp]
def LP.news (P : LP) (i tm : Int) : Bool := decide (0 < i) && !P.has i tm

theorem cells7 {w : World} {b : Nat} {t : TypeId} {v0 v1 v2 v3 v4 v5 v6 : Value} (h : w.heap[b]? = some (.cells #[v0, v1, v2, v3, v4, v5, v6] t (0, 0))) :
    (w.cell? ⟨b, 0, none⟩ = some v0 ∧ w.cell? ⟨b, 1, none⟩ = some v1 ∧ w.cell? ⟨b, 2, none⟩ = some v2 ∧ w.cell? ⟨b, 3, none⟩ = some v3 ∧ w.cell? ⟨b, 4, none⟩ = some v4 ∧ w.cell? ⟨b, 5, none⟩ = some v5 ∧ w.cell? ⟨b, 6, none⟩ = some v6) ∧ ∀ o, w.frozen? ⟨b, o, none⟩ = false := by
  refine ⟨⟨?_, ?_, ?_, ?_, ?_, ?_, ?_⟩, ?_⟩
  all_goals (first | (simp only [World.cell?, h]; rfl) | skip)
  intro o
  simp [World.frozen?, h]

set_option maxRecDepth 100000 in
set_option maxHeartbeats 1000000 in
theorem isNews_any {A : Nat → Prop} {w : World} {wb d : Nat} {X : WS} (h : Wl A w wb d X) (B : Bt) :
    Calls Tryz.prog 170 #[.pointer (some ⟨wb, 0, none⟩), B.val] w fun e w' => e = .returned (.bool (X.J.news B.i B.tm)) ∧ Below w.heap.size w w' := by
  obtain ⟨S, L, b, sv, k, h⟩ := h
  obtain ⟨W0, hW0⟩ : ∃ W0, w.alloc (.cells #[.bool B.has, .int .i64 B.t, .int .i64 B.v, .int .i64 B.c, .int .i64 B.i, .int .i64 B.tm, .slice B.a B.es.length B.cp] 39) = W0 := ⟨_, rfl⟩
  have HW : Hid (_ = W0) := hW0
  have hB : Below w.heap.size w W0 := by rw [← hW0]; exact (Below.refl _ w).alloc (Nat.le_refl _) _
  have hR : W0.heap[w.heap.size]? = some (.cells #[.bool B.has, .int .i64 B.t, .int .i64 B.v, .int .i64 B.c, .int .i64 B.i, .int .i64 B.tm, .slice B.a B.es.length B.cp] 39 (0, 0)) := by rw [← hW0]; exact heap_alloc_new w _
  obtain ⟨⟨r0, r1, r2, r3, r4, r5, r6⟩, -⟩ := cells7 hR
  have h1 := h.below hB
  obtain ⟨⟨-, -, -, w3, -⟩, -⟩ := cells5w h1.hw
  have HH : Hid (∀ q, Calls Tryz.prog 159 #[.pointer (some ⟨b, 0, none⟩), .int .i64 B.i, .int .i64 B.tm] (W0.drewN q) fun e w' => e = .returned (.bool (X.J.has B.i B.tm)) ∧ ∃ n, w' = W0.drewN n) := fun q =>
    (has_any' (h1.hj.below (below_drewN (Below.refl _ _) q)) B.i B.tm).mono fun e w' ⟨he, n, hn⟩ => ⟨he, q + n, by rw [hn, World.drewN_drewN]⟩
  have HF : Hid (∀ n, Below w.heap.size w (W0.drewN n)) := fun n => below_drewN hB n
  unfold LP.news Bt.val
  clear h hW0 hB hR h1
  generalize X.J.has B.i B.tm = hs at *
  by_cases hi : 0 < B.i
  · have d1 : decide (0 < B.i) = true := by simpa using hi
    have d2 : decide (B.i > 0) = true := by simpa using hi
    rw [d1]
    have HH1 : Hid (Calls Tryz.prog 159 #[.pointer (some ⟨b, 0, none⟩), .int .i64 B.i, .int .i64 B.tm] W0.drew fun e w' => e = .returned (.bool hs) ∧ ∃ n, w' = W0.drewN n) := HH.out 1
    clear HH
    go_enter Tryz.func170, Tryz.ntmps170
    go_upto_region 1 with fail
    rw [HW.out]
    go_region_law (go_simp; go_at_call 159; refine HH1.out.mono ?_; rintro e w1 ⟨rfl, n, rfl⟩)
    all_goals
      (try go_wp2)
      go_ret
      exact ⟨by cases hs <;> rfl, HF.out _⟩
  · have d1 : decide (0 < B.i) = false := by simpa using hi
    have d2 : decide (B.i > 0) = false := by simpa using hi
    rw [d1]
    clear HH
    go_enter Tryz.func170, Tryz.ntmps170
    go_upto_region 1 with fail
    rw [HW.out]
    go_quiet (fail)
    go_wp2
    go_ret
    exact ⟨by first | rfl | simp, HF.out _⟩
end Go.Proofs.YtnahghldlkjleaaGreatDoor
