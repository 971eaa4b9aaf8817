/-
  View.
-/
import Derived.Test.YtnahghldlkjleaaGreatDoorXS
namespace Go.Proofs.YtnahghldlkjleaaGreatDoor
open Go.RowKit
set_option linter.unusedVariables false

theorem row_shape {w : World} {N s n : Nat} {e : TypeId} {v : Value} {x : List Value} (h : w.ownsRow N e s v n x) : ∃ a c, v = .slice a n c := by
  rcases h.2 with ⟨rfl, h2⟩ | ⟨g, cap, cur, rfl, _⟩
  · exact ⟨none, 0, by rw [h2]⟩
  · exact ⟨_, _, rfl⟩
theorem cells6 {w : World} {b : Nat} {t : TypeId} {v0 v1 v2 v3 v4 v5 : Value} (h : w.heap[b]? = some (.cells #[v0, v1, v2, v3, v4, v5] t (0, 0))) :
    (w.cell? ⟨b, 0, none⟩ = some v0 ∧ w.cell? ⟨b, 1, none⟩ = some v1 ∧ w.cell? ⟨b, 2, none⟩ = some v2 ∧ w.cell? ⟨b, 3, none⟩ = some v3 ∧ w.cell? ⟨b, 4, none⟩ = some v4 ∧ w.cell? ⟨b, 5, none⟩ = some v5) ∧ ∀ o, w.frozen? ⟨b, o, none⟩ = false := by
  refine ⟨⟨?_, ?_, ?_, ?_, ?_, ?_⟩, ?_⟩
  all_goals (first | (simp only [World.cell?, h]; rfl) | skip)
  intro o
  simp [World.frozen?, h]
theorem set6 {w : World} {B : Nat} {x0 x1 x2 x3 x4 x5 : Value} {t : TypeId} (h : w.heap[B]? = some (.cells #[x0, x1, x2, x3, x4, x5] t (0, 0))) (y0 y1 y2 y3 y4 y5 : Value) :
    ((((((w.setCell ⟨B, 0, none⟩ y0).setCell ⟨B, 1, none⟩ y1).setCell ⟨B, 2, none⟩ y2).setCell ⟨B, 3, none⟩ y3).setCell ⟨B, 4, none⟩ y4).setCell ⟨B, 5, none⟩ y5).heap[B]? = some (.cells #[y0, y1, y2, y3, y4, y5] t (0, 0)) := by
  rw [heap_set (heap_set (heap_set (heap_set (heap_set (heap_set h 0 y0) 1 y1) 2 y2) 3 y3) 4 y4) 5 y5]; rfl
theorem results_V {fn : Func} {t : Tmp} (h : fn.results = #[.cell t 74]) (tmps : Array Value) (w : World) (B : Nat) {x0 x1 x2 x3 x4 x5 : Value} (ht : tmps.getD t undef = .pointer (some ⟨B, 0, none⟩)) (hb : w.heap[B]? = some (.cells #[x0, x1, x2, x3, x4, x5] 74 (0, 0))) :
    (results fn tmps).run Tryz.prog w = .ok (.agg #[x0, x1, x2, x3, x4, x5]) w := by
  obtain ⟨⟨c0, c1, c2, c3, c4, c5⟩, -⟩ := cells6 hb
  have ht' : tmps[t]?.getD undef = .pointer (some ⟨B, 0, none⟩) := by rw [← Array.getD_eq_getD_getElem?]; exact ht
  simp [results, h, ht', asAddr, loadVar, c0, c1, c2, c3, c4, c5, go_sem]

set_option maxRecDepth 100000 in
set_option maxHeartbeats 1000000 in
theorem View_any {A : Nat → Prop} {w : World} {wb d : Nat} {X : WS} (h : Wl A w wb d X) :
    Calls Tryz.prog 32 #[.pointer (some ⟨wb, 0, none⟩)] w fun e w' => ∃ va vc es, e = .returned (.agg #[.int .i64 X.J.t, .int .i64 X.J.v, .int .i64 X.J.c, .int .i64 X.J.bi, .int .i64 X.J.bt, .slice va es.length vc]) ∧ EntsOw w.heap.size w' (.slice va es.length vc) es ∧ es.map Ent.says = X.J.E ∧ Below w.heap.size w w' := by
  obtain ⟨S, L, b, sv, k, h⟩ := h
  obtain ⟨va, vc, sa, sc, es, mb, c, hb, ho, hs, hl, hvc, hvm, -⟩ := h.hj.cells
  have HC : Hid (∀ W, Below w.heap.size w W → (W.cell? ⟨wb, 3, none⟩ = some (.pointer (some ⟨b, 0, none⟩))) ∧ (W.cell? ⟨b, 0, none⟩ = some (.int .i64 X.J.t) ∧ W.cell? ⟨b, 1, none⟩ = some (.int .i64 X.J.v) ∧ W.cell? ⟨b, 2, none⟩ = some (.int .i64 X.J.c) ∧ W.cell? ⟨b, 3, none⟩ = some (.int .i64 X.J.bi) ∧ W.cell? ⟨b, 4, none⟩ = some (.int .i64 X.J.bt) ∧ W.cell? ⟨b, 5, none⟩ = some (.slice va X.J.E.length vc)) ∧ EntsAt W.heap.size W va es) := fun W hB => by
    have h1 := h.below hB
    have hb1 := bel_heap hB hb
    obtain ⟨⟨j0, j1, j2, j3, j4, j5, -, -⟩, -⟩ := cells8 hb1
    refine ⟨(cells5w h1.hw).1.2.2.2.1, ⟨j0, j1, j2, j3, j4, j5⟩, ?_⟩
    have := (ho.below hB)
    rw [← hl] at this
    exact this.at
  have hfew := h.hj.ok.few
  have hD : Hid (∀ x ∈ es, x.d.length ≤ 1000000000) := fun x hx => by
    have h1 : x.says ∈ X.J.E := by rw [← hs]; exact List.mem_map.2 ⟨x, hx, rfl⟩
    have := (eCk_ok (h.hj.ok.ck _ h1)).2.2.2.2
    show x.d.length ≤ _
    have h3 : (eD x.says) = x.d := rfl
    rw [h3] at this
    omega
  have hwb := (Array.getElem?_eq_some_iff.1 h.hw).1
  have hbl := (Array.getElem?_eq_some_iff.1 hb).1
  obtain ⟨c3, ⟨j0, j1, j2, j3, j4, j5⟩, -⟩ := HC.out w (Below.refl _ _)
  clear h hb ho
  rw [← hs]
  obtain ⟨W0, hW0⟩ : ∃ W0, (w.alloc (.cells #[.int .i64 0, .int .i64 0, .int .i64 0, .int .i64 0, .int .i64 0, .slice none 0 0] 74)).alloc (.cells #[.int .i64 X.J.t, .int .i64 X.J.v, .int .i64 X.J.c, .int .i64 X.J.bi, .int .i64 X.J.bt, .slice none 0 0] 74) = W0 := ⟨_, rfl⟩
  have HW : Hid (_ = W0) := hW0
  have HB0 : Hid (Below w.heap.size w W0) := by show Below _ _ _; rw [← hW0]; exact ((Below.refl _ w).alloc (Nat.le_refl _) _).alloc (by simp) _
  have HX0 : Hid (W0.heap[w.heap.size]? = some (.cells #[.int .i64 0, .int .i64 0, .int .i64 0, .int .i64 0, .int .i64 0, .slice none 0 0] 74 (0, 0))) := by show _ = _; rw [← hW0]; exact (two_new w _ _).1
  have HX1 : Hid (W0.heap[w.heap.size + 1]? = some (.cells #[.int .i64 X.J.t, .int .i64 X.J.v, .int .i64 X.J.c, .int .i64 X.J.bi, .int .i64 X.J.bt, .slice none 0 0] 74 (0, 0))) := by show _ = _; rw [← hW0]; exact (two_new w _ _).2
  obtain ⟨c3', ⟨_, _, _, _, _, j5'⟩, -⟩ := HC.out W0 HB0.out
  clear hW0
  generalize X.J.E.length = m at *
  generalize X.J.t = jt at *
  generalize X.J.v = jv at *
  generalize X.J.c = jc at *
  generalize X.J.bi = jbi at *
  generalize X.J.bt = jbt at *
  go_enter Tryz.func32, Tryz.ntmps32
  go_upto_region 3 with fail
  rw [HW.out]
  go_wp2_with fail
  go_loopw [23] (fun v23 wr => ∃ (j : Nat) (es' : List Ent) (va' : Option Addr) (vc' : Nat), v23 = .int .i64 (j : Int) ∧ j ≤ m ∧ Hid (es'.length = j) ∧ Hid (wr.heap[w.heap.size + 1]? = some (.cells #[.int .i64 jt, .int .i64 jv, .int .i64 jc, .int .i64 jbi, .int .i64 jbt, .slice va' es'.length vc'] 74 (0, 0))) ∧ Hid (EntsOw w.heap.size wr (.slice va' es'.length vc') es') ∧ Hid (es'.map Ent.says = (es.take j).map Ent.says) ∧ Hid (wr.heap[w.heap.size]? = some (.cells #[.int .i64 0, .int .i64 0, .int .i64 0, .int .i64 0, .int .i64 0, .slice none 0 0] 74 (0, 0))) ∧ Hid (Below w.heap.size w wr)) (fun i _ => m - (intOf i).toNat)
  case atStart => exact ⟨0, [], none, 0, rfl, Nat.zero_le _, rfl, HX1.out, EntsOw.nil _ _, rfl, HX0.out, HB0.out⟩
  case round =>
    obtain ⟨j, es', va', vc', rfl, hj, HLJ, HX, HE, HS, HZ, HB⟩ := hrel
    by_cases hlt : j < m
    · obtain ⟨be, off, hva, hbe, hE⟩ := (HC.out wr HB.out).2.2.at (i := j) (by omega)
      subst hva
      have HDk : Hid ((es.getD j nilEnt).d.length ≤ 1000000000) := by
        have hm : es.getD j nilEnt ∈ es := by rw [List.getD_eq_getElem?_getD, List.getElem?_eq_getElem (by omega)]; exact List.getElem_mem (by omega)
        exact hD.out _ hm
      have HTK : Hid ((es.take (j + 1)).map Ent.says = (es.take j).map Ent.says ++ [(es.getD j nilEnt).says]) := by
        show _ = _
        rw [take_succ' (by omega), List.map_append]; rfl
      obtain ⟨e, he⟩ : ∃ e, es.getD j nilEnt = e := ⟨_, rfl⟩
      rw [he] at hE HDk HTK
      clear he
      obtain ⟨k0, k1, k2, k3, hSl⟩ := hE
      unfold Ent.x at k3
      obtain ⟨W1, hW1⟩ : ∃ W1, wr.alloc (.cells #[.int .i64 e.t, .int .i64 e.i, .int .i64 e.k, .slice e.a e.d.length e.c] 88) = W1 := ⟨_, rfl⟩
      have HW1 : Hid (_ = W1) := hW1
      have hBW : Below wr.heap.size wr W1 := by rw [← hW1]; exact (Below.refl _ wr).alloc (Nat.le_refl _) _
      have hxe : W1.heap[wr.heap.size]? = some (.cells #[.int .i64 e.t, .int .i64 e.i, .int .i64 e.k, .slice e.a e.d.length e.c] 88 (0, 0)) := by rw [← hW1]; exact heap_alloc_new wr _
      obtain ⟨⟨b0, b1, b2, b3⟩, -⟩ := cells4' hxe
      have hx1 := bel_heap hBW HX.out
      obtain ⟨⟨-, -, -, -, -, x5⟩, -⟩ := cells6 hx1
      have HOW : Hid (∀ W, Below W1.heap.size W1 W → Calls Tryz.prog 77 #[.agg #[.int .i64 e.t, .int .i64 e.i, .int .i64 e.k, .slice e.a e.d.length e.c]] W fun r w' => ∃ e' : Ent, r = .returned (.agg #[.int .i64 e'.t, .int .i64 e'.i, .int .i64 e'.k, .slice e'.a e'.d.length e'.c]) ∧ w'.cell? ⟨w.heap.size + 1, 5, none⟩ = some (.slice va' es'.length vc') ∧ (w'.alloc (.cells #[.int .i64 e'.t, .int .i64 e'.i, .int .i64 e'.k, .slice e'.a e'.d.length e'.c] 88)).cell? ⟨w.heap.size + 1, 5, none⟩ = some (.slice va' es'.length vc') ∧ Hid (e'.says = e.says ∧ Ow W1.heap.size w' e'.x e'.d ∧ Below W1.heap.size W1 w')) := fun W hB => by
        have hs1 : Sl W.heap.size W (.slice e.a e.d.length e.c) e.d := ((hSl.below hBW).below (hB.mono hBW.size)).mono (Nat.le_trans hBW.size hB.size)
        refine (own_any e W hs1 HDk.out).mono ?_
        rintro r w' ⟨e', rfl, hsy, hO', hB2⟩
        have hB3 := hB.trans (hB2.mono hB.size)
        exact ⟨e', rfl, (cells6 (bel_heap hB3 hx1)).1.2.2.2.2.2, (cells6 (bel_heap (bel_alloc' hB3 _) hx1)).1.2.2.2.2.2, hsy, hO'.base hB.size, hB3⟩
      have HLT : Hid (w.heap.size + 1 < W1.heap.size) := (Array.getElem?_eq_some_iff.1 hx1).1
      have HEW : Hid (∀ W, Below W1.heap.size W1 W → EntsOw w.heap.size W (.slice va' es'.length vc') es') := fun W hB => (HE.out.below hBW).below hB
      have HXW : Hid (∀ W W5 v', Below W1.heap.size W1 W → W.grownBy W5 v' → (v' = none ∨ v' = (Value.slice va' es'.length vc').ownBlock) → W5.heap[w.heap.size + 1]? = some (.cells #[.int .i64 jt, .int .i64 jv, .int .i64 jc, .int .i64 jbi, .int .i64 jbt, .slice va' es'.length vc'] 74 (0, 0))) := fun W W5 v' hB hg hv => by
        have h1 := bel_heap hB hx1
        refine (hg.block _ (Array.getElem?_eq_some_iff.1 h1).1 ?_).trans h1
        rcases hv with rfl | rfl
        · simp
        · intro e
          exact (HEW.out W hB).not_at h1 (by decide) e.symm
      have HLen1 : Hid (es'.length + [e].length ≤ 1000000000) := by have := HLJ.out; show _ ≤ _; simp; omega
      clear hSl hbe c3 c3' j5 j5' hvc hvm HC HX0 HX1 HB0 hxe hx1
      have HSY0 : Hid (∀ e' : Ent, e'.says = e.says → (es' ++ [e']).map Ent.says = (es.take (j + 1)).map Ent.says) := fun e' h => by
        rw [HTK.out, List.map_append, HS.out, List.map_cons, List.map_nil, h]
      have HZ1 : Hid (W1.heap[w.heap.size]? = some (.cells #[.int .i64 0, .int .i64 0, .int .i64 0, .int .i64 0, .int .i64 0, .slice none 0 0] 74 (0, 0))) := bel_heap hBW HZ.out
      have HB1 : Hid (Below w.heap.size w W1) := HB.out.trans (hBW.mono HB.out.size)
      have HFIN : Hid (∀ (w2 W5 : World) (e' : Ent) (a5 : Option Addr) (c5 : Nat) (W4 : World), (e'.says = e.says ∧ Ow W1.heap.size w2 e'.x e'.d ∧ Below W1.heap.size W1 w2) → Below w2.heap.size w2 W4 → W5.ownsRow w.heap.size 88 4 (.slice a5 (es'.length + 1) c5) (es'.length + 1) (entCells es' ++ entCells [e']) → W4.grownBy W5 (Value.slice va' es'.length vc').ownBlock →
          (W5.cell? ⟨w.heap.size + 1, 5, none⟩ = some (.slice va' es'.length vc') ∧ W5.frozen? ⟨w.heap.size + 1, 5, none⟩ = false) ∧ Hid (∃ es2 : List Ent, es2.length = j + 1 ∧ (W5.setCell ⟨w.heap.size + 1, 5, none⟩ (.slice a5 (es'.length + 1) c5)).heap[w.heap.size + 1]? = some (.cells #[.int .i64 jt, .int .i64 jv, .int .i64 jc, .int .i64 jbi, .int .i64 jbt, .slice a5 es2.length c5] 74 (0, 0)) ∧ EntsOw w.heap.size (W5.setCell ⟨w.heap.size + 1, 5, none⟩ (.slice a5 (es'.length + 1) c5)) (.slice a5 es2.length c5) es2 ∧ es2.map Ent.says = (es.take (j + 1)).map Ent.says ∧ (W5.setCell ⟨w.heap.size + 1, 5, none⟩ (.slice a5 (es'.length + 1) c5)).heap[w.heap.size]? = some (.cells #[.int .i64 0, .int .i64 0, .int .i64 0, .int .i64 0, .int .i64 0, .slice none 0 0] 74 (0, 0)) ∧ Below w.heap.size w (W5.setCell ⟨w.heap.size + 1, 5, none⟩ (.slice a5 (es'.length + 1) c5)))) := fun w2 W5 e' a5 c5 W4 ⟨hsy, how, hB2⟩ hB4 hr hg => by
        have hBW4 : Below W1.heap.size W1 W4 := hB2.trans (hB4.mono hB2.size)
        have h5 := HXW.out W4 W5 _ hBW4 hg (.inr rfl)
        obtain ⟨⟨-, -, -, -, -, y5⟩, yf⟩ := cells6 h5
        have hz4 : W4.heap[w.heap.size]? = _ := bel_heap hBW4 HZ1.out
        have hz5 : W5.heap[w.heap.size]? = _ := (hg.block _ (Array.getElem?_eq_some_iff.1 hz4).1 (fun h => (HEW.out W4 hBW4).not_at hz4 (by decide) h.symm)).trans hz4
        have hEo : EntsOw w.heap.size W5 (.slice a5 (es' ++ [e']).length c5) (es' ++ [e']) := by
          have h6 := EntsOw.app (fs := [e']) (HEW.out W4 hBW4) (fun x hx => by obtain rfl := List.mem_singleton.1 hx; exact (how.below hB4 (Nat.le_refl _)).base (HB1.out.size)) (v' := .slice a5 (es'.length + 1) c5) (by simpa using hr) hg
          simpa using h6
        have hB5 : Below w.heap.size w W5 := bel_grown (HB1.out.trans (hBW4.mono HB1.out.size)) hg (fun g hg => (HE.out.lt hg).1)
        refine ⟨⟨y5, yf 5⟩, es' ++ [e'], by have := HLJ.out; simp; omega, ?_, ?_, HSY0.out e' hsy, ?_, bel_set' hB5 (Nat.le_succ _)⟩
        · rw [heap_set h5 5]; simp
        · refine EntsOw.out (X := fun i => i = w.heap.size + 1) hEo (Out.set rfl) ?_ ?_
          · intro g hg' e1
            exact hEo.not_at h5 (by decide) (by rw [hg', e1])
          · intro x hx g hg' e1
            exact (hEo.dat x hx).not_at h5 (by decide) (by rw [hg', e1])
        · exact (Below.heap_setCell _ _ _ _ (by simp)).trans hz5
      have HSL : Hid (∀ (w2 : World) (e' : Ent), Ow W1.heap.size w2 e'.x e'.d → EntsAt (w2.heap.size + 1) (w2.alloc (.cells #[.int .i64 e'.t, .int .i64 e'.i, .int .i64 e'.k, e'.x] 88)) (some ⟨w2.heap.size, 0, none⟩) [e']) := fun w2 e' how => ents_one w2 e' w2.heap.size (Nat.le_refl _) (how.sl (Nat.le_refl _)) (Nat.le_refl _)
      have HROW : Hid (∀ W, Below W1.heap.size W1 W → W.ownsRow w.heap.size 88 4 (.slice va' es'.length vc') es'.length (entCells es')) := fun W hB => (HEW.out W hB).row
      clear HTK HXW HSY0
      go_upto_region 6 with fail
      try rw [HW1.out]
      clear k0 k1 k2 k3 hW1 HW1 HX HE HS HZ HB HZ1 hBW HW HDk
      go_region_law (first
          | ((try go_simp); (try go_at_call 77); refine Calls.mono (HOW.out _ (by (repeat (first | (with_reducible refine bel_alloc' ?_ _) | (with_reducible refine bel_drew' ?_) | (with_reducible refine bel_drewN' ?_ _))); exact Below.refl _ _)) ?_; rintro r w2 ⟨e', rfl, x5, x6, H2⟩)
          | (refine step_append_ents rfl (.tmp 28) (.tmp 31) rfl w.heap.size (w2.heap.size + 1) (.slice va' es'.length vc') (some ⟨w2.heap.size, 0, none⟩) 1 es' [e'] (by simp [Act.eval]) (HROW.out _ (by (repeat (first | (with_reducible refine bel_alloc' ?_ _) | (with_reducible refine bel_drew' ?_) | (with_reducible refine bel_drewN' ?_ _))); exact H2.out.2.2)) (by simp [Act.eval]) (HSL.out w2 e' H2.out.2.1) (by simpa using HLen1.out) (by have := HB1.out.size; have := H2.out.2.2.size; simp; omega) ?_; intro v' w5 q1 q2 q3; obtain ⟨a5, c5, rfl⟩ : ∃ a5 c5, v' = .slice a5 (es'.length + 1) c5 := (by exact row_shape q1); obtain ⟨⟨k5, kf5⟩, HE5⟩ := HFIN.out w2 w5 e' a5 c5 _ H2.out (by (repeat (first | (with_reducible refine bel_alloc' ?_ _) | (with_reducible refine bel_drew' ?_) | (with_reducible refine bel_drewN' ?_ _))); exact Below.refl _ _) q1 q2; clear q1 q2 q3))
      all_goals
        (try go_wp2)
        obtain ⟨es2, z1, z2, z3, z4, z5, z6⟩ := HE5.out
        exact ⟨⟨j + 1, es2, a5, c5, by go_num, by omega, z1, z2, z3, z4, z5, z6⟩, by simp [intOf]; omega⟩
    · have hjm : j = m := by omega
      subst hjm
      obtain ⟨⟨y0, y1, y2, y3, y4, y5⟩, -⟩ := cells6 HX.out
      obtain ⟨⟨z0, z1, z2, z3, z4, z5⟩, zf⟩ := cells6 HZ.out
      clear HX0 HX1 HC
      go_wp2_with fail
      refine bodyPost_ret (results_V rfl _ _ w.heap.size rfl (set6 HZ.out _ _ _ _ _ _)) rfl ?_
      have hO6 : ∀ x0 x1 x2 x3 x4 x5 : Value, Out (fun i => i = w.heap.size) wr ((((((wr.setCell ⟨w.heap.size, 0, none⟩ x0).setCell ⟨w.heap.size, 1, none⟩ x1).setCell ⟨w.heap.size, 2, none⟩ x2).setCell ⟨w.heap.size, 3, none⟩ x3).setCell ⟨w.heap.size, 4, none⟩ x4).setCell ⟨w.heap.size, 5, none⟩ x5) := fun x0 x1 x2 x3 x4 x5 =>
        ((((((Out.refl (fun i => i = w.heap.size) wr).put rfl).put rfl).put rfl).put rfl).put rfl).put rfl
      refine ⟨va', vc', es', rfl, HE.out.out (hO6 _ _ _ _ _ _) ?_ ?_, ?_, ?_⟩
      · intro g hg e1
        exact HE.out.not_at HZ.out (by decide) (by rw [hg, e1])
      · intro x hx g hg e1
        exact (HE.out.dat x hx).not_at HZ.out (by decide) (by rw [hg, e1])
      · have hes := HS.out
        rw [List.take_of_length_le (by omega)] at hes
        exact hes
      · exact bel_set' (bel_set' (bel_set' (bel_set' (bel_set' (bel_set' HB.out (Nat.le_refl _)) (Nat.le_refl _)) (Nat.le_refl _)) (Nat.le_refl _)) (Nat.le_refl _)) (Nat.le_refl _)
end Go.Proofs.YtnahghldlkjleaaGreatDoor
