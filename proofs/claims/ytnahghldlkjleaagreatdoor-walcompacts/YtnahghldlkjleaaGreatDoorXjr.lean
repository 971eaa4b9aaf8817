/-
  The records of a batch, made.
-/
import Derived.Test.YtnahghldlkjleaaGreatDoorXj
namespace Go.Proofs.YtnahghldlkjleaaGreatDoor
open Go.RowKit
set_option linter.unusedVariables false

theorem alloc2_new (W : World) (o : Obj) (o' : Obj) : ((W.alloc o).alloc o').heap[W.heap.size + 1]? = some o' := by
  have := heap_alloc_new (W.alloc o) o'
  rwa [World.size_alloc] at this
theorem two_new (W : World) (o o' : Obj) : ((W.alloc o).alloc o').heap[W.heap.size]? = some o ∧ ((W.alloc o).alloc o').heap[W.heap.size + 1]? = some o' :=
  ⟨(heap_alloc_old _ _ (by simp)).trans (heap_alloc_new W o), alloc2_new W o o'⟩
theorem set_new {w : World} {B : Nat} {x0 x1 x2 : Value} {t : TypeId} (h : w.heap[B]? = some (.cells #[x0, x1, x2] t (0, 0))) (y0 y1 y2 : Value) (o : Obj) :
    ((((w.setCell ⟨B, 0, none⟩ y0).setCell ⟨B, 1, none⟩ y1).setCell ⟨B, 2, none⟩ y2).alloc o).heap[B]? = some (.cells #[y0, y1, y2] t (0, 0)) ∧ ((((w.setCell ⟨B, 0, none⟩ y0).setCell ⟨B, 1, none⟩ y1).setCell ⟨B, 2, none⟩ y2).alloc o).heap[w.heap.size]? = some o := by
  have hz : (((w.setCell ⟨B, 0, none⟩ y0).setCell ⟨B, 1, none⟩ y1).setCell ⟨B, 2, none⟩ y2).heap.size = w.heap.size := by rw [size_set, size_set, size_set]
  have hlt := (Array.getElem?_eq_some_iff.1 h).1
  refine ⟨(heap_alloc_old _ _ (by rw [hz]; exact hlt)).trans (set3 h y0 y1 y2), ?_⟩
  have := heap_alloc_new (((w.setCell ⟨B, 0, none⟩ y0).setCell ⟨B, 1, none⟩ y1).setCell ⟨B, 2, none⟩ y2) o
  rwa [hz] at this
theorem set_set {w : World} {B C : Nat} {x0 x1 x2 z0 z1 z2 : Value} {t : TypeId} (h : w.heap[B]? = some (.cells #[x0, x1, x2] t (0, 0))) (k : w.heap[C]? = some (.cells #[z0, z1, z2] t (0, 0))) (hne : B ≠ C) (y0 y1 y2 u0 u1 u2 : Value) :
    ((((((w.setCell ⟨B, 0, none⟩ y0).setCell ⟨B, 1, none⟩ y1).setCell ⟨B, 2, none⟩ y2).setCell ⟨C, 0, none⟩ u0).setCell ⟨C, 1, none⟩ u1).setCell ⟨C, 2, none⟩ u2).heap[B]? = some (.cells #[y0, y1, y2] t (0, 0)) ∧
    ((((((w.setCell ⟨B, 0, none⟩ y0).setCell ⟨B, 1, none⟩ y1).setCell ⟨B, 2, none⟩ y2).setCell ⟨C, 0, none⟩ u0).setCell ⟨C, 1, none⟩ u1).setCell ⟨C, 2, none⟩ u2).heap[C]? = some (.cells #[u0, u1, u2] t (0, 0)) := by
  constructor
  · rw [Below.heap_setCell _ _ _ _ hne, Below.heap_setCell _ _ _ _ hne, Below.heap_setCell _ _ _ _ hne]
    exact set3 h y0 y1 y2
  · refine set3 (x0 := z0) (x1 := z1) (x2 := z2) ?_ u0 u1 u2
    rw [Below.heap_setCell _ _ _ _ hne.symm, Below.heap_setCell _ _ _ _ hne.symm, Below.heap_setCell _ _ _ _ hne.symm]
    exact k
set_option maxRecDepth 100000 in
set_option maxHeartbeats 4000000 in
theorem records_any {A : Nat → Prop} {w : World} {wb d : Nat} {X : WS} (h : Wl A w wb d X) (hn : X.sg ≠ []) (hfew : X.sg.length ≤ 1000000000) (B : Bt) (hes : EntsAt w.heap.size w B.a B.es) (hcp : B.es.length ≤ B.cp ∧ B.cp ≤ maxLen) (hd : ∀ e ∈ B.es, e.d.length ≤ 4096) (hlen : B.es.length ≤ 100000) :
    Calls Tryz.prog 118 #[.pointer (some ⟨wb, 0, none⟩), B.val] w fun e w' => ∃ v es', e = .returned v ∧ es'.map Ent.says = B.es.map Ent.says ∧ Ro RR w.heap.size w' v (B.recs X.J X.last.n es') ∧ (∀ x ∈ es', Ow w.heap.size w' x.x x.d) ∧ Below w.heap.size w w' := by
  have hX := h
  obtain ⟨S, L, b, sv, k, h⟩ := h
  obtain ⟨n, hn'⟩ : ∃ n, X.sg.length = n + 1 := ⟨X.sg.length - 1, by have := List.length_pos_iff.2 hn; omega⟩
  obtain ⟨g, cap, hsv, hg, hAg, -, s0, s1⟩ := h.at_last hn'
  subst hsv
  obtain ⟨W0, hW0⟩ : ∃ W0, w.alloc (.cells #[.bool B.has, .int .i64 B.t, .int .i64 B.v, .int .i64 B.c, .int .i64 B.i, .int .i64 B.tm, .slice B.a B.es.length B.cp] 39) = W0 := ⟨_, rfl⟩
  have HW : Hid (_ = W0) := hW0
  have hB0 : Below w.heap.size w W0 := by rw [← hW0]; exact (Below.refl _ w).alloc (Nat.le_refl _) _
  have HZ0 : Hid (W0.heap.size = w.heap.size + 1) := by show _ = _; rw [← hW0]; simp
  have hR : W0.heap[w.heap.size]? = some (.cells #[.bool B.has, .int .i64 B.t, .int .i64 B.v, .int .i64 B.c, .int .i64 B.i, .int .i64 B.tm, .slice B.a B.es.length B.cp] 39 (0, 0)) := by rw [← hW0]; exact heap_alloc_new w _
  have h1 := h.below hB0
  obtain ⟨⟨w0, w1, w2, w3, w4⟩, -⟩ := cells5w h1.hw
  obtain ⟨va, vc, sa, sc, es, mb, c, hb, -⟩ := h1.hj.cells
  obtain ⟨⟨j0, j1, j2, -⟩, -⟩ := cells8 hb
  have wlt := (Array.getElem?_eq_some_iff.1 h1.hw).1
  have blt := (Array.getElem?_eq_some_iff.1 hb).1
  have hg0 : g < W0.heap.size := Nat.lt_of_lt_of_le hg hB0.size
  have s0' : W0.cell? ⟨g, n * 2, none⟩ = some (.int .i64 (X.last.n : Int)) := (hB0.cell (p := ⟨g, n * 2, none⟩) hg).trans s0
  have HC : Hid (∀ V, Below W0.heap.size W0 V → (V.cell? ⟨w.heap.size, 0, none⟩ = some (.bool B.has) ∧ V.cell? ⟨w.heap.size, 1, none⟩ = some (.int .i64 B.t) ∧ V.cell? ⟨w.heap.size, 2, none⟩ = some (.int .i64 B.v) ∧ V.cell? ⟨w.heap.size, 3, none⟩ = some (.int .i64 B.c) ∧ V.cell? ⟨w.heap.size, 4, none⟩ = some (.int .i64 B.i) ∧ V.cell? ⟨w.heap.size, 5, none⟩ = some (.int .i64 B.tm) ∧ V.cell? ⟨w.heap.size, 6, none⟩ = some (.slice B.a B.es.length B.cp)) ∧ V.cell? ⟨wb, 3, none⟩ = some (.pointer (some ⟨b, 0, none⟩)) ∧ V.cell? ⟨b, 0, none⟩ = some (.int .i64 X.J.t) ∧ V.cell? ⟨b, 1, none⟩ = some (.int .i64 X.J.v) ∧ V.cell? ⟨b, 2, none⟩ = some (.int .i64 X.J.c) ∧ V.cell? ⟨g, n * 2, none⟩ = some (.int .i64 (X.last.n : Int))) := fun V hB =>
    ⟨(cells7 (bel_heap hB hR)).1, (hB.cell (p := ⟨wb, 3, none⟩) wlt).trans w3, (hB.cell (p := ⟨b, 0, none⟩) blt).trans j0, (hB.cell (p := ⟨b, 1, none⟩) blt).trans j1, (hB.cell (p := ⟨b, 2, none⟩) blt).trans j2, (hB.cell (p := ⟨g, n * 2, none⟩) hg0).trans s0'⟩
  have HLS : Hid (∀ W, Below W0.heap.size W0 W → Calls Tryz.prog 94 #[.pointer (some ⟨wb, 0, none⟩)] W fun e w' => e = .returned (.pointer (some ⟨g, n * 2, none⟩)) ∧ Below W0.heap.size W0 w' ∧ Below W.heap.size W w') := fun W hB =>
    (lastSeg_any W wb g n cap ((hB.cell (p := ⟨wb, 2, none⟩) wlt).trans w2) (by omega)).mono fun e w' ⟨he, q, hq⟩ => ⟨he, by rw [hq]; exact below_drewN hB q, by rw [hq]; exact below_drewN (Below.refl _ _) q⟩
  have HNW : Hid (∀ W, Below W0.heap.size W0 W → Calls Tryz.prog 170 #[.pointer (some ⟨wb, 0, none⟩), .agg #[.bool B.has, .int .i64 B.t, .int .i64 B.v, .int .i64 B.c, .int .i64 B.i, .int .i64 B.tm, .slice B.a B.es.length B.cp]] W fun e w' => e = .returned (.bool (X.J.news B.i B.tm)) ∧ Below W.heap.size W w') := fun W hB =>
    isNews_any (hX.below (hB0.trans (hB.mono hB0.size))) B
  have HES : Hid (∀ W, Below W0.heap.size W0 W → EntsAt w.heap.size W B.a B.es) := fun W hB => hes.below (hB0.trans (hB.mono hB0.size))
  have HB0 : Hid (Below w.heap.size w W0) := hB0
  obtain ⟨hcp1, hcp2⟩ := hcp
  unfold maxLen at hcp2
  have HD : Hid (∀ e ∈ B.es, e.d.length ≤ 4096) := hd
  obtain ⟨P, hP⟩ : ∃ P, X.J = P := ⟨_, rfl⟩
  obtain ⟨sg, hsg⟩ : ∃ sg, X.last.n = sg := ⟨_, rfl⟩
  rw [hP] at HC HNW ⊢
  rw [hsg] at HC ⊢
  obtain ⟨d00, d01, d02, d03, d04, d05⟩ := HC.out W0 (Below.refl _ _)
  obtain ⟨f0, f1, f2, f3, f4, f5, f6⟩ := d00
  clear hX h hn hfew hn' hsg hP hes hd hW0 hB0 hR h1 w0 w1 w2 w3 w4 hb j0 j1 j2 s0 s1 s0' hAg hg
  have hw00 : w.heap.size < W0.heap.size := by have := HZ0.out; omega
  have nw0 : w.heap.size ≠ W0.heap.size := Nat.ne_of_lt hw00
  have nwb0 : wb ≠ W0.heap.size := Nat.ne_of_lt wlt
  have nb0 : b ≠ W0.heap.size := Nat.ne_of_lt blt
  have ng0 : g ≠ W0.heap.size := Nat.ne_of_lt hg0
  unfold Bt.val
  obtain ⟨bh, hbh⟩ : ∃ bh, B.has = bh := ⟨_, rfl⟩
  have HBH : Hid (B.has = bh) := hbh
  rw [hbh] at HC HNW HW f0 ⊢
  clear hbh
  obtain ⟨ba, hba⟩ : ∃ ba, B.a = ba := ⟨_, rfl⟩
  rw [hba] at HC HNW HW f6 HES ⊢
  clear hba
  go_enter Tryz.func118, Tryz.ntmps118
  go_upto_region 1 with fail
  rw [HW.out]
  go_upto_region 2 with fail
  go_cut [6, 7, 8] (fun v6 v7 v8 wx => v6 = .int .i64 (sg : Int) ∧ ∃ R7 R8, v7 = .pointer (some ⟨R7, 0, none⟩) ∧ v8 = .pointer (some ⟨R8, 0, none⟩) ∧ Hid (wx.heap[R7]? = some (.cells #[.int .i64 P.t, .int .i64 P.v, .int .i64 P.c] 36 (0, 0))) ∧ Hid (wx.heap[R8]? = some (.cells #[.int .i64 B.t, .int .i64 B.v, .int .i64 B.c] 36 (0, 0))) ∧ Hid (Below W0.heap.size W0 wx))
  case first =>
    have HS : Hid (∀ V, Below W0.heap.size W0 V → V.cell? ⟨w.heap.size, 1, none⟩ = some (.int .i64 B.t) ∧ V.cell? ⟨w.heap.size, 2, none⟩ = some (.int .i64 B.v) ∧ V.cell? ⟨w.heap.size, 3, none⟩ = some (.int .i64 B.c) ∧ V.cell? ⟨wb, 3, none⟩ = some (.pointer (some ⟨b, 0, none⟩)) ∧ V.cell? ⟨b, 0, none⟩ = some (.int .i64 P.t) ∧ V.cell? ⟨b, 1, none⟩ = some (.int .i64 P.v) ∧ V.cell? ⟨b, 2, none⟩ = some (.int .i64 P.c) ∧ V.cell? ⟨g, n * 2, none⟩ = some (.int .i64 (sg : Int))) := fun V hB => by
      obtain ⟨⟨-, q1, q2, q3, -⟩, q4, q5, q6, q7, q8⟩ := HC.out V hB
      exact ⟨q1, q2, q3, q4, q5, q6, q7, q8⟩
    have hRR : Below W0.heap.size W0 W0 := Below.refl _ _
    clear HNW HES HD hcp1 hcp2 hlen HZ0 HW HC f0 f1 f2 f3 f4 f5 f6 d01 d02 d03 d04 d05
    go_region_held3 (fun w' => w'.cell? ⟨w.heap.size, 1, none⟩ = some (.int .i64 B.t) ∧ w'.cell? ⟨w.heap.size, 2, none⟩ = some (.int .i64 B.v) ∧ w'.cell? ⟨w.heap.size, 3, none⟩ = some (.int .i64 B.c) ∧ w'.cell? ⟨wb, 3, none⟩ = some (.pointer (some ⟨b, 0, none⟩)) ∧ w'.cell? ⟨b, 0, none⟩ = some (.int .i64 P.t) ∧ w'.cell? ⟨b, 1, none⟩ = some (.int .i64 P.v) ∧ w'.cell? ⟨b, 2, none⟩ = some (.int .i64 P.c) ∧ w'.cell? ⟨g, n * 2, none⟩ = some (.int .i64 (sg : Int))) ((refine HS.out _ ?_; (repeat (first | (with_reducible refine bel_set' ?_ (by first | exact Nat.le_refl _ | assumption | omega)) | (with_reducible refine bel_alloc' ?_ _) | (with_reducible refine bel_drew' ?_) | (with_reducible refine bel_drewN' ?_ _) | assumption)))) ((go_at_call 94; refine (HLS.out _ ?hb).mono ?_; (case hb => (repeat (first | (with_reducible refine bel_alloc' ?_ _) | (with_reducible refine bel_drew' ?_) | (with_reducible refine bel_drewN' ?_ _) | assumption))); rintro e w1 ⟨rfl, hB1, hB1'⟩; have hz1 : W0.heap.size ≤ w1.heap.size := hB1.size; (try (have hv7 : w1.heap[W0.heap.size]? = some (.cells #[.int .i64 0, .int .i64 0, .int .i64 0] 36 (0, 0)) := (by first | exact bel_heap hB1' (heap_alloc_new W0 _) | exact bel_heap hB1' ((heap_alloc_old (W0.alloc _) _ (by simp)).trans (heap_alloc_new W0 _))); obtain ⟨⟨z0, z1, z2⟩, zf⟩ := cells3' hv7; have hl7 : W0.heap.size < w1.heap.size := (Array.getElem?_eq_some_iff.1 hv7).1; have hn7 : W0.heap.size ≠ w1.heap.size := Nat.ne_of_lt hl7; have hn7' : w1.heap.size ≠ W0.heap.size := Nat.ne_of_gt hl7)); (try (have hv8 : w1.heap[W0.heap.size + 1]? = some (.cells #[.int .i64 0, .int .i64 0, .int .i64 0] 36 (0, 0)) := bel_heap hB1' (alloc2_new W0 _ _); obtain ⟨⟨y0, y1, y2⟩, yf⟩ := cells3' hv8))))
    all_goals
      (try go_wp2)
      go_meet
      first
        | (refine ⟨rfl, w1.heap.size, w1.heap.size + 1, (by with_reducible rfl), (by with_reducible rfl), ?_, ?_, ?_⟩; exact (two_new w1 _ _).1; exact (two_new w1 _ _).2; (show Below _ _ _; ((repeat (first | (with_reducible refine bel_set' ?_ (by first | exact Nat.le_refl _ | assumption | omega)) | (with_reducible refine bel_alloc' ?_ _) | (with_reducible refine bel_drew' ?_) | assumption)))))
        | (refine ⟨rfl, w1.heap.size + 1, w1.heap.size, (by with_reducible rfl), (by with_reducible rfl), ?_, ?_, ?_⟩; exact (two_new w1 _ _).2; exact (two_new w1 _ _).1; (show Below _ _ _; ((repeat (first | (with_reducible refine bel_set' ?_ (by first | exact Nat.le_refl _ | assumption | omega)) | (with_reducible refine bel_alloc' ?_ _) | (with_reducible refine bel_drew' ?_) | assumption)))))
        | (refine ⟨rfl, W0.heap.size, w1.heap.size, (by with_reducible rfl), (by with_reducible rfl), ?_, ?_, ?_⟩; exact (set_new hv7 _ _ _ _).1; exact (set_new hv7 _ _ _ _).2; (show Below _ _ _; ((repeat (first | (with_reducible refine bel_set' ?_ (by first | exact Nat.le_refl _ | assumption | omega)) | (with_reducible refine bel_alloc' ?_ _) | (with_reducible refine bel_drew' ?_) | assumption)))))
        | (refine ⟨rfl, w1.heap.size, W0.heap.size, (by with_reducible rfl), (by with_reducible rfl), ?_, ?_, ?_⟩; exact (set_new hv7 _ _ _ _).2; exact (set_new hv7 _ _ _ _).1; (show Below _ _ _; ((repeat (first | (with_reducible refine bel_set' ?_ (by first | exact Nat.le_refl _ | assumption | omega)) | (with_reducible refine bel_alloc' ?_ _) | (with_reducible refine bel_drew' ?_) | assumption)))))
        | (refine ⟨rfl, W0.heap.size, W0.heap.size + 1, (by with_reducible rfl), (by with_reducible rfl), ?_, ?_, ?_⟩; exact (set_set hv7 hv8 (by omega) _ _ _ _ _ _).1; exact (set_set hv7 hv8 (by omega) _ _ _ _ _ _).2; (show Below _ _ _; ((repeat (first | (with_reducible refine bel_set' ?_ (by first | exact Nat.le_refl _ | assumption | omega)) | (with_reducible refine bel_alloc' ?_ _) | (with_reducible refine bel_drew' ?_) | assumption)))))
        | (refine ⟨rfl, W0.heap.size + 1, W0.heap.size, (by with_reducible rfl), (by with_reducible rfl), ?_, ?_, ?_⟩; exact (set_set hv8 hv7 (by omega) _ _ _ _ _ _).1; exact (set_set hv8 hv7 (by omega) _ _ _ _ _ _).2; (show Below _ _ _; ((repeat (first | (with_reducible refine bel_set' ?_ (by first | exact Nat.le_refl _ | assumption | omega)) | (with_reducible refine bel_alloc' ?_ _) | (with_reducible refine bel_drew' ?_) | assumption)))))
  case rest =>
    obtain ⟨hu6, R7, R8, hu7, hu8, H7, H8, HBc⟩ := hcut
    subst hu6 hu7 hu8
    generalize wc = W1 at *
    clear wc d01 d02 d03 d04 d05 f0 f1 f2 f3 f4 f5 f6 HLS
    have HB1 : Hid (Below w.heap.size w W1) := HB0.out.trans (HBc.out.mono HB0.out.size)
    have HZ1 : Hid (w.heap.size < W1.heap.size) := Nat.lt_of_lt_of_le hw00 HBc.out.size
    have HQ : Hid (∀ V, Below W1.heap.size W1 V → (V.cell? ⟨R7, 0, none⟩ = some (.int .i64 P.t) ∧ V.cell? ⟨R7, 1, none⟩ = some (.int .i64 P.v) ∧ V.cell? ⟨R7, 2, none⟩ = some (.int .i64 P.c)) ∧ (V.cell? ⟨R8, 0, none⟩ = some (.int .i64 B.t) ∧ V.cell? ⟨R8, 1, none⟩ = some (.int .i64 B.v) ∧ V.cell? ⟨R8, 2, none⟩ = some (.int .i64 B.c)) ∧ V.cell? ⟨w.heap.size, 0, none⟩ = some (.bool bh) ∧ V.cell? ⟨w.heap.size, 1, none⟩ = some (.int .i64 B.t) ∧ V.cell? ⟨w.heap.size, 2, none⟩ = some (.int .i64 B.v) ∧ V.cell? ⟨w.heap.size, 3, none⟩ = some (.int .i64 B.c) ∧ V.cell? ⟨w.heap.size, 4, none⟩ = some (.int .i64 B.i) ∧ V.cell? ⟨w.heap.size, 5, none⟩ = some (.int .i64 B.tm) ∧ V.cell? ⟨w.heap.size, 6, none⟩ = some (.slice ba B.es.length B.cp)) := fun V hB =>
      ⟨(cells3' (bel_heap hB H7.out)).1, (cells3' (bel_heap hB H8.out)).1, (HC.out V (HBc.out.trans (hB.mono HBc.out.size))).1⟩
    have HNW1 : Hid (∀ W, Below W1.heap.size W1 W → Calls Tryz.prog 170 #[.pointer (some ⟨wb, 0, none⟩), .agg #[.bool bh, .int .i64 B.t, .int .i64 B.v, .int .i64 B.c, .int .i64 B.i, .int .i64 B.tm, .slice ba B.es.length B.cp]] W fun e w' => e = .returned (.bool (P.news B.i B.tm)) ∧ Below W.heap.size W w') := fun W hB =>
      HNW.out W (HBc.out.trans (hB.mono HBc.out.size))
    have HES1 : Hid (∀ W, Below W1.heap.size W1 W → EntsAt w.heap.size W ba B.es) := fun W hB => HES.out W (HBc.out.trans (hB.mono HBc.out.size))
    clear HNW HES HC H7 H8 HBc hw00 nw0 nwb0 nb0 ng0 wlt blt hg0 HB0 HZ0 HW
    obtain ⟨⟨a0, a1, a2⟩, ⟨b0, b1, b2⟩, e0, e1, e2, e3, e4, e5, e6⟩ := HQ.out W1 (Below.refl _ _)
    go_upto_region 3 with fail
    go_cut [42] (fun v wx => v = .bool (B.c1 P) ∧ W1 = wx)
    case first =>
      cases bh with
      | false =>
        have HV : Hid (B.c1 P = false) := by show _ = _; unfold Bt.c1; rw [HBH.out]; rfl
        clear HQ HNW1 HES1 HD HB1 HZ1
        go_wp2
        go_meet
        exact ⟨by rw [HV.out], rfl⟩
      | true =>
        by_cases ht : B.t = P.t
        · have hd1 : (B.t != P.t) = false := by simpa using ht
          have HV : Hid (B.c1 P = (B.v != P.v)) := by show _ = _; unfold Bt.c1; rw [HBH.out, hd1]; simp
          clear HQ HNW1 HES1 HD HB1 HZ1 ht
          go_wp2
          go_meet
          exact ⟨by rw [HV.out], rfl⟩
        · have hd1 : (B.t != P.t) = true := by simpa using ht
          have HV : Hid (B.c1 P = true) := by show _ = _; unfold Bt.c1; rw [HBH.out, hd1]; simp
          clear HQ HNW1 HES1 HD HB1 HZ1 ht
          go_wp2
          go_meet
          exact ⟨by rw [HV.out], rfl⟩
    case rest =>
      obtain ⟨hu, hw⟩ := hcut
      subst hu hw
      generalize hc1 : B.c1 P = c1 at *
      have HC1 : Hid (B.c1 P = c1) := hc1
      clear hc1
      go_upto_if 42 with fail
      go_cut [5] (fun v5 wx => Hid (Ro RR W1.heap.size wx v5 (B.r1 P sg)) ∧ Hid (Below W1.heap.size W1 wx))
      case first =>
        cases c1 with
        | false =>
          have HV : Hid (B.r1 P sg = []) := by show _ = _; unfold Bt.r1; rw [HC1.out]; rfl
          clear HQ HNW1 HES1 HD
          go_wp2
          go_meet
          exact ⟨by rw [HV.out]; exact Ro.nil _ _ _, Below.refl _ _⟩
        | true =>
          have HV : Hid (B.r1 P sg = [] ++ [rSt sg B.t B.v P.c]) := by show _ = _; unfold Bt.r1; rw [HC1.out]; rfl
          have HZ2 : Hid (W1.heap.size ≤ W1.heap.size + 1) := Nat.le_succ _
          clear HQ HNW1 HES1 HD
          go_wp2_with (at_builtin; refine wpList_append_ro RR rfl _ _ rfl W1.heap.size (.slice none 0 0) [] (rSt sg B.t B.v P.c) rfl (Ro.nil _ _ _) (B := W1.heap.size + 1) rfl (by simp) (by simp) (by simp) ?_; intro v' w5 q1 q2 q3)
          go_meet
          refine ⟨by rw [HV.out]; exact q1, ?_⟩
          exact bel_grown (v := .slice none 0 0) (bel_alloc' (bel_alloc' (Below.refl _ _) _) _) q2 (fun g hg => by cases hg)
      case rest =>
        obtain ⟨HRa, HBa⟩ := hcut
        generalize wc = W2 at *
        clear wc a0 a1 a2 b0 b1 b2 e0 e1 e2 e3 e4 e5 e6 HC1
        obtain ⟨⟨a0, a1, a2⟩, ⟨b0, b1, b2⟩, e0, e1, e2, e3, e4, e5, e6⟩ := HQ.out W2 HBa.out
        have HNW2 : Hid (Calls Tryz.prog 170 #[.pointer (some ⟨wb, 0, none⟩), .agg #[.bool bh, .int .i64 B.t, .int .i64 B.v, .int .i64 B.c, .int .i64 B.i, .int .i64 B.tm, .slice ba B.es.length B.cp]] W2 fun e w' => e = .returned (.bool (P.news B.i B.tm)) ∧ Hid (Below W1.heap.size W1 w') ∧ Hid (Ro RR W1.heap.size w' u5 (B.r1 P sg)) ∧ (w'.cell? ⟨w.heap.size, 4, none⟩ = some (.int .i64 B.i) ∧ w'.cell? ⟨w.heap.size, 5, none⟩ = some (.int .i64 B.tm) ∧ w'.cell? ⟨w.heap.size, 6, none⟩ = some (.slice ba B.es.length B.cp))) := by
          refine (HNW1.out W2 HBa.out).mono ?_
          rintro e w' ⟨he, h2⟩
          have hb2 := HBa.out.trans (h2.mono HBa.out.size)
          obtain ⟨-, -, -, -, -, -, q4, q5, q6⟩ := HQ.out w' hb2
          exact ⟨he, hb2, HRa.out.below h2 (Nat.le_refl _), q4, q5, q6⟩
        obtain ⟨va5, vc5, hv5, -, -⟩ := HRa.out.shape
        subst hv5
        have HL1 : Hid ((B.r1 P sg).length ≤ 1) := by show _ ≤ _; unfold Bt.r1; split <;> simp
        generalize hN : P.news B.i B.tm = nw at *
        have HN : Hid (P.news B.i B.tm = nw) := hN
        clear hN HNW1
        go_upto_if 58 with (go_at_call 170; refine HNW2.out.mono ?_; rintro e w9 ⟨rfl, HB9, HR9, k4, k5, k6⟩)
        obtain ⟨lr1, hlr⟩ : ∃ lr1, (B.r1 P sg).length = lr1 := ⟨_, rfl⟩
        have HLR : Hid ((B.r1 P sg).length = lr1) := hlr
        rw [hlr] at HR9 ⊢
        clear hlr
        go_cut [5] (fun v5 wx => Hid (Ro RR W1.heap.size wx v5 (B.r1 P sg ++ B.r2 P sg)) ∧ Hid (Below W1.heap.size W1 wx))
        case first =>
          cases nw with
          | false =>
            have HV : Hid (B.r2 P sg = []) := by show _ = _; unfold Bt.r2; rw [HN.out]; rfl
            clear HQ HES1 HD HNW2
            go_wp2
            go_meet
            exact ⟨by rw [HV.out, List.append_nil]; exact HR9.out, HB9.out⟩
          | true =>
            have HV : Hid (B.r2 P sg = [rMk sg B.i B.tm]) := by show _ = _; unfold Bt.r2; rw [HN.out]; rfl
            have HZ2 : Hid (W1.heap.size ≤ w9.heap.size) := HB9.out.size
            clear HQ HES1 HD HNW2
            go_wp2_with (at_builtin; refine wpList_append_ro RR rfl _ _ rfl W1.heap.size (.slice va5 lr1 vc5) (B.r1 P sg) (rMk sg B.i B.tm) rfl HR9.out (B := w9.heap.size) rfl rfl (by have := HL1.out; omega) HZ2.out ?_; intro v' w5 q1 q2 q3)
            go_meet
            refine ⟨by rw [HV.out]; exact q1, ?_⟩
            exact bel_grown (bel_alloc' HB9.out _) q2 (fun g hg => (HR9.out.lt hg).1)
        case rest =>
          obtain ⟨HRb, HBb⟩ := hcut
          generalize wc = W3 at *
          clear wc HRa HBa a0 a1 a2 b0 b1 b2 e0 e1 e2 e3 e4 e5 e6 HNW2 HR9 HB9 k4 k5 k6 HN HLR
          have HL2 : Hid ((B.r1 P sg ++ B.r2 P sg).length ≤ 2) := by
            have := HL1.out
            have h2 : (B.r2 P sg).length ≤ 1 := by unfold Bt.r2; split <;> simp
            show _ ≤ _
            rw [List.length_append]; omega
          obtain ⟨l12, hl12⟩ : ∃ l12, B.r1 P sg ++ B.r2 P sg = l12 := ⟨_, rfl⟩
          have HL12 : Hid (B.r1 P sg ++ B.r2 P sg = l12) := hl12
          rw [hl12] at HRb HL2
          clear hl12 HL1
          obtain ⟨⟨a0, a1, a2⟩, ⟨b0, b1, b2⟩, e0, e1, e2, e3, e4, e5, e6⟩ := HQ.out W3 HBb.out
          have hbl := hlen
          go_wp2_with fail
          go_loopw [5, 71] (fun v5 v71 wr => ∃ (k : Nat) (es' : List Ent), v71 = .int .i64 (k : Int) ∧ k ≤ B.es.length ∧ Hid (Ro RR W1.heap.size wr v5 (l12 ++ es'.map (rEn sg))) ∧ Hid (es'.map Ent.says = (B.es.take k).map Ent.says) ∧ Hid (∀ x ∈ es', Ow w.heap.size wr x.x x.d) ∧ Hid (Below W1.heap.size W1 wr)) (fun _ i _ => B.es.length - (intOf i).toNat)
          case atStart => exact ⟨0, [], rfl, Nat.zero_le _, (by show Ro _ _ _ _ _; rw [List.map_nil, List.append_nil]; exact HRb.out), rfl, (fun x hx => by cases hx), HBb.out⟩
          case round =>
            obtain ⟨k, es', rfl, hk, HR, HE, HO, HB⟩ := hrel
            by_cases hlt : k < B.es.length
            · have hlen1 : es'.length = k := by
                have := congrArg List.length HE.out
                simp only [List.length_map, List.length_take] at this
                omega
              obtain ⟨be, off, hba, hbe, hE⟩ := (HES1.out wr HB.out).at hlt
              have HDk : Hid ((B.es.getD k nilEnt).d.length ≤ 1000000000) := by
                have hm : B.es.getD k nilEnt ∈ B.es := by rw [List.getD_eq_getElem?_getD, List.getElem?_eq_getElem hlt]; exact List.getElem_mem hlt
                have := HD.out _ hm
                show _ ≤ _; omega
              have HTK : Hid ((B.es.take (k + 1)).map Ent.says = (B.es.take k).map Ent.says ++ [(B.es.getD k nilEnt).says]) := by
                show _ = _
                rw [take_succ' hlt, List.map_append]; rfl
              obtain ⟨e, he⟩ : ∃ e, B.es.getD k nilEnt = e := ⟨_, rfl⟩
              rw [he] at hE HDk HTK
              clear he
              subst hba
              obtain ⟨k0, k1, k2, k3, hSl⟩ := hE
              have HSl : Hid (Sl w.heap.size wr e.x e.d) := hSl
              unfold Ent.x at k3
              have HZr : Hid (w.heap.size < wr.heap.size) := by have := HZ1.out; have := HB.out.size; show _ < _; omega
              have HOW : Hid (∀ W, Below wr.heap.size wr W → Calls Tryz.prog 77 #[.agg #[.int .i64 e.t, .int .i64 e.i, .int .i64 e.k, .slice e.a e.d.length e.c]] W fun r w' => ∃ e' : Ent, r = .returned (.agg #[.int .i64 e'.t, .int .i64 e'.i, .int .i64 e'.k, .slice e'.a e'.d.length e'.c]) ∧ e'.says = e.says ∧ Ow W.heap.size w' e'.x e'.d ∧ Below W.heap.size W w') := fun W hB => by
                have h1 : Sl W.heap.size W e.x e.d := (HSl.out.below (hB.mono (Nat.le_of_lt HZr.out))).mono (by have := HZr.out; have := hB.size; omega)
                exact own_any e W h1 HDk.out
              have hxl : (l12 ++ es'.map (rEn sg)).length ≤ 1000000000 := by have := HL2.out; simp; omega
              clear HQ HDk hSl HES1 HD hbe
              have HRr : Hid (Ro RR W1.heap.size wr u5 (l12 ++ es'.map (rEn sg))) := HR
              have HBr : Hid (Below W1.heap.size W1 wr) := HB
              go_wp2_with (first
                | (go_at_call 77; refine (HOW.out _ ?hb).mono ?_; (case hb => (repeat (first | (with_reducible refine bel_alloc' ?_ _) | (with_reducible refine bel_drew' ?_) | (with_reducible refine bel_drewN' ?_ _))); exact Below.refl _ _); rintro r w2 ⟨e', rfl, hsy, hO', hB2⟩; have HB2 : Hid (Below wr.heap.size wr w2) := (bel_alloc' (Below.refl _ _) _).trans (hB2.mono (by simp)); have HSY : Hid _ := hsy; have HOn : Hid _ := hO'; clear hsy hO' hB2)
                | (at_builtin; refine wpList_append_ro RR rfl _ _ rfl W1.heap.size u5 (l12 ++ es'.map (rEn sg)) (rEn sg e') rfl (HRr.out.below HB2.out (Nat.le_refl _)) (B := w2.heap.size) rfl rfl hxl (by have := HBr.out.size; have := HB2.out.size; omega) ?_; intro v' w5 q1 q2 q3)
                | fail)
              have hOn : Ow w.heap.size w2 e'.x e'.d := Ow.base HOn.out (by simp; have := HZr.out; omega)
              refine ⟨⟨k + 1, es' ++ [e'], by go_num, by omega, ?_, ?_, ?_, ?_⟩, by simp [intOf]; omega⟩
              · show Ro _ _ _ _ _
                rw [List.map_append, ← List.append_assoc]; exact q1
              · show _ = _
                rw [HTK.out, List.map_append, HE.out, List.map_cons, List.map_nil, HSY.out]
              · intro x hx
                rcases List.mem_append.1 hx with hx | hx
                · exact ow_push ((HO.out x hx).below HB2.out (Nat.le_refl _)) (HRr.out.below HB2.out (Nat.le_refl _)) q2
                · obtain rfl := List.mem_singleton.1 hx
                  exact ow_push hOn (HRr.out.below HB2.out (Nat.le_refl _)) q2
              · exact bel_grown (bel_alloc' (HBr.out.trans (HB2.out.mono HBr.out.size)) _) q2 (fun g hg => (HRr.out.lt hg).1)
            · have hke : B.es.take k = B.es := List.take_of_length_le (by omega)
              rw [hke] at HE
              have HRr : Hid (Ro RR W1.heap.size wr u5 (l12 ++ es'.map (rEn sg))) := HR
              have HBr : Hid (Below W1.heap.size W1 wr) := HB
              have hlen1 : es'.length = B.es.length := by
                have := congrArg List.length HE.out
                simpa using this
              have HXL : Hid ((l12 ++ es'.map (rEn sg)).length ≤ 1000000000) := by have := HL2.out; show _ ≤ _; simp; omega
              clear a0 a1 a2 b0 b1 b2 e0 e1 e2 e3 e4 e5 e6 HRb HBb
              obtain ⟨⟨a0, a1, a2⟩, ⟨b0, b1, b2⟩, e0, e1, e2, e3, e4, e5, e6⟩ := HQ.out wr HBr.out
              go_upto_region 13 with fail
              go_cut [91] (fun v wx => v = .bool (B.c2 P) ∧ wr = wx)
              case first =>
                cases bh with
                | false =>
                  have HV : Hid (B.c2 P = false) := by show _ = _; unfold Bt.c2; rw [HBH.out]; rfl
                  clear HQ HES1 HD
                  go_wp2
                  go_meet
                  exact ⟨by rw [HV.out], rfl⟩
                | true =>
                  have HV : Hid (B.c2 P = (B.c != P.c)) := by show _ = _; unfold Bt.c2; rw [HBH.out]; simp
                  clear HQ HES1 HD
                  go_wp2
                  go_meet
                  exact ⟨by rw [HV.out], rfl⟩
              case rest =>
                obtain ⟨hu, hw⟩ := hcut
                subst hu hw
                generalize hc2 : B.c2 P = c2 at *
                have HC2 : Hid (B.c2 P = c2) := hc2
                clear hc2
                go_upto_if 91 with fail
                go_cut [5] (fun v5 wx => Hid (Ro RR W1.heap.size wx v5 (l12 ++ es'.map (rEn sg) ++ B.r4 P sg)) ∧ Hid (∀ x ∈ es', Ow w.heap.size wx x.x x.d) ∧ Hid (Below W1.heap.size W1 wx))
                case first =>
                  cases c2 with
                  | false =>
                    have HV : Hid (B.r4 P sg = []) := by show _ = _; unfold Bt.r4; rw [HC2.out]; rfl
                    clear HQ HES1 HD
                    go_wp2
                    go_meet
                    exact ⟨by rw [HV.out, List.append_nil]; exact HRr.out, HO.out, HBr.out⟩
                  | true =>
                    have HV : Hid (B.r4 P sg = [rSt sg B.t B.v B.c]) := by show _ = _; unfold Bt.r4; rw [HC2.out]; rfl
                    clear HQ HES1 HD
                    go_wp2_with (at_builtin; refine wpList_append_ro RR rfl _ _ rfl W1.heap.size u5 (l12 ++ es'.map (rEn sg)) (rSt sg B.t B.v B.c) rfl HRr.out (B := wr.heap.size) rfl rfl HXL.out HBr.out.size ?_; intro v' w5 q1 q2 q3)
                    go_meet
                    refine ⟨by rw [HV.out]; exact q1, fun x hx => ow_push (HO.out x hx) HRr.out q2, ?_⟩
                    exact bel_grown (bel_alloc' HBr.out _) q2 (fun g hg => (HRr.out.lt hg).1)
                case rest =>
                  obtain ⟨HRz, HOz, HBz⟩ := hcut
                  clear HQ HES1 HD a0 a1 a2 b0 b1 b2 e0 e1 e2 e3 e4 e5 e6
                  go_wp2
                  go_ret
                  refine ⟨_, es', rfl, HE.out, ?_, HOz.out, HB1.out.trans (HBz.out.mono HB1.out.size)⟩
                  have := HRz.out.base (N' := w.heap.size) (Nat.le_of_lt HZ1.out)
                  unfold Bt.recs
                  rw [HL12.out]
                  exact this
end Go.Proofs.YtnahghldlkjleaaGreatDoor
