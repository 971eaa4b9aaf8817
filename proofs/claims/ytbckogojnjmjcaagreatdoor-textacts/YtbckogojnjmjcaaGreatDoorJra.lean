/-
  Acts carried between the program's type and the document's. The act of any line, the line of any act: the walk.
-/
import Derived.Test.YtbckogojnjmjcaaGreatDoorR4
import Derived.Test.YtbckogojnjmjcaaGreatDoorR7
namespace Go.Proofs.YtbckogojnjmjcaaGreatDoor
open Go.RowKit Go.Shelf

theorem results_R1 {fn : Func} {t : Tmp} (h : fn.results = #[.cell t 37]) (tmps : Array Value) (w : World) (B : Nat) {x0 x1 x2 x3 x4 x5 x6 x7 x8 : Value} (ht : tmps.getD t undef = .pointer (some ⟨B, 0, none⟩)) (hb : w.heap[B]? = some (.cells #[x0, x1, x2, x3, x4, x5, x6, x7, x8] 37 (0, 0))) :
    (results fn tmps).run Tryz.prog w = .ok (.agg #[x0, x1, x2, x3, x4, x5, x6, x7, x8]) w := by
  obtain ⟨⟨c0, c1, c2, c3, c4, c5, c6, c7, c8⟩, -⟩ := cells9 hb
  have ht' : tmps[t]?.getD undef = .pointer (some ⟨B, 0, none⟩) := by rw [← Array.getD_eq_getD_getElem?]; exact ht
  simp [results, h, ht', asAddr, loadVar, c0, c1, c2, c3, c4, c5, c6, c7, c8, go_sem]
theorem heap_new2 (w : World) (a b : Obj) : ((w.alloc a).alloc b).heap[w.heap.size + 1]? = some b := by
  have := heap_alloc_new (w.alloc a) b
  simpa only [World.size_alloc] using this
set_option maxRecDepth 100000 in
theorem ract_any (a : Ac) (w : World) : Calls Tryz.prog 18 #[.agg a.cells] w fun e w' => e = .returned (.agg a.cells) ∧ Below w.heap.size w w' := by
  unfold Ac.cells str
  go_enter Tryz.func18, Tryz.ntmps18
  go_wp2
  refine bodyPost_ret (results_R1 rfl _ _ (w.heap.size + 1) rfl (heap_new2 w _ _)) rfl ?_
  exact ⟨rfl, ((Below.refl _ _).alloc (Nat.le_refl _) _).alloc (by simp) _⟩
set_option maxRecDepth 100000 in
theorem rback_any (a : Ac) (w : World) : Calls Tryz.prog 19 #[.agg a.cells] w fun e w' => e = .returned (.agg a.cells) ∧ Below w.heap.size w w' := by
  unfold Ac.cells str
  go_enter Tryz.func19, Tryz.ntmps19
  go_wp2
  refine bodyPost_ret (results_A rfl _ _ (w.heap.size + 1) rfl (heap_new2 w _ _)) rfl ?_
  exact ⟨rfl, ((Below.refl _ _).alloc (Nat.le_refl _) _).alloc (by simp) _⟩
end Go.Proofs.YtbckogojnjmjcaaGreatDoor
namespace Go.Proofs.YtbckogojnjmjcaaGreatDoor
open Go.RowKit Go.Shelf

set_option maxRecDepth 100000 in
set_option maxHeartbeats 8000000 in
theorem acts_walk (w : World) (hv : Vars w) (line : Bs) (hl : line.length ≤ maxLen) (a : Ac) (ha : AcIn a) : Calls Tryz.prog 4 #[str line, .agg a.cells] w fun e w' => e = .returned (.bool true) ∧ Below w.heap.size w w' := by
  have HV : Hid (∀ W, Below w.heap.size w W → Vars W) := fun W h => hv.below h
  have HN := num_any
  have HB0 : Hid (Below w.heap.size w (w.alloc (.cells a.cells 34))) := (Below.refl _ _).alloc (Nat.le_refl _) _
  have HA0 : Hid (AcAt (w.alloc (.cells a.cells 34)) w.heap.size a) := heap_alloc_new w _
  have HFI := first_any (w.alloc (.cells a.cells 34)) (HV.out _ HB0.out)
  have hk := ha.key
  have hva := ha.val
  have ho := ha.old
  unfold maxLen at hl hk hva ho
  clear hv
  unfold Ac.cells str at HFI HB0 HA0
  unfold Ac.cells str
  go_enter Tryz.func4, Tryz.ntmps4
  go_wp2_with fail
  refine HFI.mono ?_
  rintro e w1 ⟨rfl, hB1⟩
  have hA1 : AcAt w1 w.heap.size a := HA0.out.below hB1
  have HA1 : Hid (AcAt w1 w.heap.size a) := hA1
  have HB1 : Hid (Below w.heap.size w w1) := HB0.out.trans (hB1.mono (by simp))
  have hz1 : w.heap.size < w1.heap.size := hA1.lt
  obtain ⟨a0, a1, a2, a3, a4, a5, a6, a7, a8⟩ := hA1.cells
  clear hB1 hA1 HFI HB0 HA0
  by_cases hll : 20000 < line.length
  · go_wp2
    go_ret
    exact ⟨rfl, HB1.out⟩
  by_cases hkk : 20000 < a.key.length
  · go_wp2
    go_ret
    exact ⟨rfl, HB1.out⟩
  by_cases hvv : 20000 < a.val.length
  · go_wp2
    go_ret
    exact ⟨rfl, HB1.out⟩
  by_cases hoo : 20000 < a.old.length
  · go_wp2
    go_ret
    exact ⟨rfl, HB1.out⟩
  have HOK : Hid (AcOk a) := ha.ok (by omega) (by omega) (by omega)
  have HPA := parseAct_any line (by omega) w1 (HV.out w1 HB1.out)
  have HLL : Hid (line.length ≤ 1000000) := by show _ ≤ _; omega
  unfold str at HPA
  go_wp2_with fail
  refine HPA.mono ?_
  rintro e w2 ⟨⟨r, hr, rfl⟩, hB2⟩
  obtain ⟨x, er, hx⟩ : ∃ (x : Ac) (er : Int), PaE r = .returned (.tuple #[.agg x.cells, .int .i64 er]) := by
    cases r with
    | ok y => exact ⟨y, 0, rfl⟩
    | error k => exact ⟨ac0, k, rfl⟩
  have HPE : Hid (∀ q, PaR line q → PaE q = .returned (.tuple #[.agg x.cells, .int .i64 er])) := fun q hq => by rw [hq.uniq hr]; exact hx
  rw [hx]
  have HA2 : Hid (AcAt w2 w.heap.size a) := HA1.out.below hB2
  have HB2 : Hid (Below w.heap.size w w2) := HB1.out.trans (hB2.mono HB1.out.size)
  have hz2 : w.heap.size < w2.heap.size := HA2.out.lt
  clear hx hr hB2 HPA HA1 HB1 a0 a1 a2 a3 a4 a5 a6 a7 a8 hll hkk hvv hoo hz1
  have HX3 : Hid (AcAt (w2.alloc (.cells x.cells 34)) w2.heap.size x) := heap_alloc_new w2 _
  have HB23 : Hid (∀ o, Below w2.heap.size w2 (w2.alloc o)) := fun o => (Below.refl _ _).alloc (Nat.le_refl _) o
  have HRP := fun W => rparseAct_any line HLL.out W
  unfold Ac.cells str at HX3
  unfold Ac.cells str
  go_wp2_with fail
  refine (HRP _).mono ?_
  rintro e w4 ⟨⟨q, hq, rfl⟩, hB4⟩
  rw [HPE.out q hq]
  have HX4 : Hid (AcAt w4 w2.heap.size x) := HX3.out.below hB4
  have HA4 : Hid (AcAt w4 w.heap.size a) := (HA2.out.below (HB23.out _)).below hB4
  have HB4 : Hid (Below w.heap.size w w4) := HB2.out.trans (((HB23.out _).trans (hB4.mono (by simp))).mono (by omega))
  have hz4 : w2.heap.size < w4.heap.size := HX4.out.lt
  clear hq hB4 HRP HPE HX3 HA2 HB2 HB23
  have HY5 : Hid (RcAt (w4.alloc (.cells x.cells 37)) w4.heap.size x) := heap_alloc_new w4 _
  have HB45 : Hid (∀ o, Below w4.heap.size w4 (w4.alloc o)) := fun o => (Below.refl _ _).alloc (Nat.le_refl _) o
  have HAo : Hid (∀ o, AcAt (w4.alloc o) w.heap.size a) := fun o => HA4.out.below (HB45.out o)
  have HFA := fun W h => formatAct_any a HOK.out W h
  unfold Ac.cells str at HY5 HFA
  have ao := fun o => (HAo.out o).cells
  unfold Ac.cells str
  go_wp2_with fail
  refine (HFA _ (HV.out _ (HB4.out.trans ((HB45.out _).mono (by omega))))).mono ?_
  rintro e w6 ⟨he6, hB6⟩
  obtain ⟨st, e2, hst⟩ : ∃ (st : Bs) (e2 : Int), FmE (fmtF a) = .returned (.tuple #[.string ⟨st.toArray⟩, .int .i64 e2]) := by
    cases fmtF a with
    | ok s => exact ⟨s, 0, rfl⟩
    | error k => exact ⟨[], k, rfl⟩
  have HST : Hid (FmE (docF a) = .returned (.tuple #[.string ⟨st.toArray⟩, .int .i64 e2])) := by show _ = _; rw [doc_fmt]; exact hst
  rw [hst] at he6
  subst he6
  have HX6 : Hid (AcAt w6 w2.heap.size x) := (HX4.out.below (HB45.out _)).below hB6
  have HY6 : Hid (RcAt w6 w4.heap.size x) := HY5.out.below hB6
  have HA6 : Hid (AcAt w6 w.heap.size a) := (HAo.out _).below hB6
  have HB6 : Hid (Below w.heap.size w w6) := HB4.out.trans (((HB45.out _).trans (hB6.mono (by simp))).mono (by omega))
  have hz6 : w4.heap.size < w6.heap.size := HY6.out.lt
  clear hst hB6 HFA ao HAo HY5 HB45 HX4 HA4 HB4
  obtain ⟨a0, a1, a2, a3, a4, a5, a6, a7, a8⟩ := HA6.out.cells
  have HRA := ract_any a w6
  unfold Ac.cells str at HRA
  go_wp2_with fail
  refine HRA.mono ?_
  rintro e w7 ⟨rfl, hB7⟩
  have HB7 : Hid (Below w6.heap.size w6 w7) := hB7
  have HRF := rformatAct_any a HOK.out w7 (HV.out _ (HB6.out.trans (hB7.mono HB6.out.size)))
  rw [HST.out] at HRF
  unfold Ac.cells str at HRF
  clear hB7 HRA a0 a1 a2 a3 a4 a5 a6 a7 a8
  go_wp2_with fail
  refine HRF.mono ?_
  rintro e w8 ⟨rfl, hB8⟩
  have HB68 : Hid (Below w6.heap.size w6 w8) := HB7.out.trans (hB8.mono HB7.out.size)
  have HB8 : Hid (Below w.heap.size w w8) := HB6.out.trans (HB68.out.mono HB6.out.size)
  have HX8 : Hid (AcAt w8 w2.heap.size x) := HX6.out.below HB68.out
  have HY8 : Hid (RcAt w8 w4.heap.size x) := HY6.out.below HB68.out
  clear hB8 HRF HST HB7 HB68 HB6 HX6 HY6 HA6
  obtain ⟨x0, x1, x2, x3, x4, x5, x6, x7, x8⟩ := HX8.out.cells
  obtain ⟨y0, y1, y2, y3, y4, y5, y6, y7, y8⟩ := HY8.out.cells
  have heq : ∀ W, (Op.equalIn 10000 34 (.agg x.cells) (.agg x.cells)).run Tryz.prog W = .ok true W := fun W => by have := run_eq_act x x W; rwa [decide_eq_true rfl] at this
  unfold Ac.cells str at heq
  have HBK : Hid (∀ n, Calls Tryz.prog 19 #[.agg #[.int .i64 x.kind, .int .i64 x.node, .int .i64 x.client, .int .i64 x.n, .int .i64 x.m, .int .i64 x.op, .string ⟨x.key.toArray⟩, .string ⟨x.val.toArray⟩, .string ⟨x.old.toArray⟩]] (w8.drewN n) fun e w' => e = .returned (.agg #[.int .i64 x.kind, .int .i64 x.node, .int .i64 x.client, .int .i64 x.n, .int .i64 x.m, .int .i64 x.op, .string ⟨x.key.toArray⟩, .string ⟨x.val.toArray⟩, .string ⟨x.old.toArray⟩]) ∧ Hid (Below w8.heap.size w8 w') ∧ AcAt w' w2.heap.size x ∧ RcAt w' w4.heap.size x) := fun n => by
    refine (rback_any x (w8.drewN n)).mono ?_
    rintro e w' ⟨h1, h2⟩
    have hb : Below w8.heap.size w8 w' := (drewB w8 n).trans h2
    exact ⟨h1, hb, HX8.out.below hb, HY8.out.below hb⟩
  go_wp2
  go_region_held3 (fun V => (V.cell? ⟨w2.heap.size, 0, none⟩ = some (.int .i64 x.kind) ∧ V.cell? ⟨w2.heap.size, 1, none⟩ = some (.int .i64 x.node) ∧ V.cell? ⟨w2.heap.size, 2, none⟩ = some (.int .i64 x.client) ∧ V.cell? ⟨w2.heap.size, 3, none⟩ = some (.int .i64 x.n) ∧ V.cell? ⟨w2.heap.size, 4, none⟩ = some (.int .i64 x.m) ∧ V.cell? ⟨w2.heap.size, 5, none⟩ = some (.int .i64 x.op) ∧ V.cell? ⟨w2.heap.size, 6, none⟩ = some (.string ⟨x.key.toArray⟩) ∧ V.cell? ⟨w2.heap.size, 7, none⟩ = some (.string ⟨x.val.toArray⟩) ∧ V.cell? ⟨w2.heap.size, 8, none⟩ = some (.string ⟨x.old.toArray⟩)) ∧ (V.cell? ⟨w4.heap.size, 0, none⟩ = some (.int .i64 x.kind) ∧ V.cell? ⟨w4.heap.size, 1, none⟩ = some (.int .i64 x.node) ∧ V.cell? ⟨w4.heap.size, 2, none⟩ = some (.int .i64 x.client) ∧ V.cell? ⟨w4.heap.size, 3, none⟩ = some (.int .i64 x.n) ∧ V.cell? ⟨w4.heap.size, 4, none⟩ = some (.int .i64 x.m) ∧ V.cell? ⟨w4.heap.size, 5, none⟩ = some (.int .i64 x.op) ∧ V.cell? ⟨w4.heap.size, 6, none⟩ = some (.string ⟨x.key.toArray⟩) ∧ V.cell? ⟨w4.heap.size, 7, none⟩ = some (.string ⟨x.val.toArray⟩) ∧ V.cell? ⟨w4.heap.size, 8, none⟩ = some (.string ⟨x.old.toArray⟩))) (go_keep)
    (first
      | (go_at_call 19; refine (HBK.out _).mono ?_; rintro e w9 ⟨rfl, HB9, hx9, hy9⟩; obtain ⟨x0, x1, x2, x3, x4, x5, x6, x7, x8⟩ := hx9.cells; obtain ⟨y0, y1, y2, y3, y4, y5, y6, y7, y8⟩ := hy9.cells)
      | (go_at_call 11; refine (HN _ _).mono ?_; rintro e w9 ⟨rfl, hw⟩; subst w9)
      | fail)
  go_wp2
  go_ret
  exact ⟨rfl, HB8.out.trans (HB9.out.mono HB8.out.size)⟩
end Go.Proofs.YtbckogojnjmjcaaGreatDoor
