/-
  For every files and every operations the law DiskLoads returns true: what Load answers of any files, and what is done to the disk that it made, are as the document says; no condition.
-/
import Derived.Test.YtbjnhohfdpdcnaaLds
import Derived.Test.YtbjnhohfdpdcnaaRowPla
namespace Go.Proofs.Ytbjnhohfdpdcnaa
open Go.ChangeShapes Go.WideShapes Go.ChangeAt Go.RowKit
set_option linter.unusedVariables false

theorem list3 {α : Type} {cs : List α} (h : cs.length = 3) : ∃ v0 v1 v2, cs = [v0, v1, v2] := by
  match cs, h with
  | [v0, v1, v2], _ => exact ⟨_, _, _, rfl⟩
theorem under37 : ∃ f0 f1 f2 : Field, Try.prog.underlying 37 = some (.struct #[f0, f1, f2]) ∧ (f0.offset = 0 ∧ f1.offset = 1 ∧ f2.offset = 2) ∧ f0.type = 9 ∧ f1.type = 32 ∧ f2.type = 3 := ⟨_, _, _, Try.underlying37, ⟨rfl, rfl, rfl⟩, rfl, rfl, rfl⟩
theorem cellsOf37 : Try.prog.cellsOf 37 = 3 := by kernel_rfl

set_option maxRecDepth 100000 in
/-- A file that came in. -/
theorem inFileB {H : Type} {enc : TypeId × Value → H} {W : World} {n : Nat} {cs : List Value} {x : DataW H × List MemPlace} (hlen : cs.length = 3) (hw : ∀ m ∈ x.1.weights Try.prog 37, m ≤ reachBytes) (h : DataW.trod enc Try.prog W 0 (fun _ => true) true n 37 cs = some x) :
    ∃ (nm : List UInt8) (a : Option Addr) (cap : Nat) (m : List UInt8) (q : Int), cs = [.string ⟨nm.toArray⟩, .slice a m.length cap, .int .i64 q] ∧ Sl W.heap.size W (.slice a m.length cap) m ∧ nm.length ≤ maxLen ∧ m.length ≤ 140737488351232 := by
  obtain ⟨f0, f1, f2, hu, ⟨o0, o1, o2⟩, t0, t1, t2⟩ := under37
  obtain ⟨xs, k, _, hxy, _, hxl, hf⟩ := DataW.trod_struct hu h
  obtain ⟨v0, v1, v2, rfl⟩ := list3 hlen
  obtain ⟨y0, y1, y2, rfl⟩ := list3 hxl
  have hw1 : ∀ m ∈ y1.1.weights Try.prog 32, m ≤ reachBytes := fun m hm => by
    refine hw m ?_
    rw [hxy]
    simp only [DataW.weights, hu]
    have e : (#[f0, f1, f2] : Array Field).toList.map (·.type) = [9, 32, 3] := by simp [t0, t1, t2]
    rw [e]
    simp only [List.map_cons, List.map_nil, DataW.weightsEach, List.mem_append]
    exact .inr (.inl hm)
  have g0 := hf 0 f0 rfl
  rw [o0, t0, cellsOf9] at g0
  have g1 := hf 1 f1 rfl
  rw [o1, t1, cellsOf32] at g1
  have g2 := hf 2 f2 rfl
  rw [o2, t2, cellsOf3] at g2
  simp at g0 g1 g2
  obtain ⟨z0, e0, -, hl0⟩ := DataW.trod_string Try.underlying9 g0
  simp at e0
  subst e0
  obtain ⟨z2, e2, -, -⟩ := DataW.trod_int Try.underlying3 g2
  simp at e2
  subst e2
  obtain ⟨a4, n4, k4, e4, ⟨zs, w4⟩, hn4⟩ : ∃ a4 n4 k4, v1 = .slice a4 n4 k4 ∧ (∃ zs, IsRow .u8 W a4 n4 k4 zs) ∧ n4 ≤ 140737488351232 := by
    rcases open_ints Try.underlying32 Try.underlying5 (by kernel_rfl) g1 with ⟨hcs, _⟩ | ⟨x, l, c, zs, hcs, _, hl, hm, hz, hxz, hcell, hwz⟩
    · simp at hcs
      exact ⟨none, 0, 0, hcs, ⟨[], .inl ⟨rfl, rfl, rfl, rfl⟩⟩, Nat.zero_le _⟩
    · simp at hcs
      refine ⟨some x, l, c, hcs, ⟨zs, .inr ⟨_, rfl, hl, hm, by simpa using hz, hcell, hwz⟩⟩, ?_⟩
      have hb5 : Try.prog.bytesOf 5 = 1 := by kernel_rfl
      have h9 := hw1 ((lits .u8 (zs.take l)).length + (lits .u8 (zs.drop l)).length) (by
        rw [hxz]
        simp only [DataW.weights, Try.underlying32, hb5, Nat.mul_one]
        exact List.mem_cons_self)
      have h8 : (lits (H := H) .u8 (zs.take l)).length = l := by
        have hzl : l ≤ zs.length := by simp at hz; omega
        simp [lits]
        omega
      rw [h8] at h9
      unfold reachBytes at h9
      omega
  subst e4
  obtain ⟨l, hl, hs⟩ := isRow_sl w4
  subst hl
  refine ⟨z0.data.toList, a4, k4, l, z2, by simp, hs, ?_, hn4⟩
  rw [Array.length_toList]; exact hl0

set_option maxRecDepth 100000 in
/-- Files that came in. -/
theorem inFilesB {H : Type} {enc : TypeId × Value → H} {W : World} {n : Nat} {v : Value} {x : DataW H × List MemPlace} (hw : ∀ m ∈ x.1.weights Try.prog 28, m ≤ reachBytes) (h : DataW.trod enc Try.prog W 0 (fun _ => true) true n 28 [v] = some x) :
    ∃ (ea : Option Addr) (ec : Nat) (es : List Fl), v = .slice ea es.length ec ∧ FlsAt W.heap.size W ea es ∧ es.length ≤ 9223372036854775807 ∧ ∀ f ∈ es, f.dat.length ≤ 140737488351232 ∧ f.nm.length ≤ maxLen := by
  rcases Deep.open_slice Try.underlying28 h with ⟨hcs, _⟩ | ⟨x, l, c, m, n, E, Pl, hcs, _, hl, hm, hmm, hx, hcell⟩
  · simp at hcs
    exact ⟨none, 0, [], hcs, .inl rfl, Nat.zero_le _, by simp⟩
  · simp at hcs
    have hlm : l ≤ 9223372036854775807 := by have := hm; unfold maxLen at this; omega
    by_cases hz : l = 0
    · subst hz; exact ⟨some x, c, [], hcs, .inl rfl, Nat.zero_le _, by simp⟩
    · have hml : l ≤ m := by rw [hmm]; split <;> omega
      obtain ⟨b, off, spot⟩ := x
      have hspot : spot = none := by
        obtain ⟨cs', hc', -⟩ := hcell 0 (by omega)
        rw [cellsOf37] at hc'
        obtain ⟨_, hlen, hc⟩ := World.cells?_some hc'
        have h00 := hc 0 (by omega)
        rw [List.getElem?_eq_getElem (by omega)] at h00
        simpa [Addr.add] using World.cell?_spot h00
      subst hspot
      have each : ∀ i, i < l → ∃ e : Fl, FlAt W.heap.size W b (off + i * 3) e ∧ e.dat.length ≤ 140737488351232 ∧ e.nm.length ≤ maxLen := by
        intro i hi
        obtain ⟨cs', hc', ht⟩ := hcell i (by omega)
        rw [cellsOf37, Addr.add_lit] at hc'
        obtain ⟨_, hlen, hc⟩ := World.cells?_some hc'
        obtain ⟨nm, a, cap, bb, q, rfl, hs, h1, h2⟩ := inFileB hlen (fun m hm => hw m (by
          rw [hx]
          simp only [DataW.weights, Try.underlying28]
          refine List.mem_cons_of_mem _ (List.mem_append.2 (.inl (mem_weightsAll (d := E i) ?_ hm)))
          exact List.mem_map_of_mem (List.mem_range.2 hi))) ht
        have c0 := hc 0 (by omega)
        have c1 := hc 1 (by omega)
        have c2 := hc 2 (by omega)
        rw [Addr.add_lit] at c0 c1 c2
        simp at c0 c1 c2
        exact ⟨⟨nm, a, cap, bb, q⟩, ⟨c0, c1, c2, hs⟩, h2, h1⟩
      have inh : Inhabited Fl := ⟨nilFl⟩
      obtain ⟨D, hD⟩ := Deep.choose_lt each
      have hlt : b < W.heap.size := cell_lt (hD 0 (by omega)).1.1
      refine ⟨some ⟨b, off, none⟩, c, (List.range l).map D, by simpa using hcs, .inr ⟨b, off, rfl, hlt, fun i hi => ?_⟩, by simpa using hlm, fun f hf => ?_⟩
      · simp at hi
        rw [show ((List.range l).map D).getD i nilFl = D i by simp [hi]]
        exact (hD i hi).1
      · obtain ⟨i, hi, rfl⟩ := List.mem_map.1 hf
        exact (hD i (List.mem_range.1 hi)).2

set_option maxRecDepth 100000 in
theorem diskLoads_lifted (os : Os) (started : os.Started) (H : Type) (enc : TypeId × Value → H) :
    ReturnsInHanded {} Try.checked os 4 .any (Rows.diskLoadsSpec.pre6 enc Try.prog Try.f4 Rows.diskLoadsRow.domain false) (Rows.diskLoadsSpec.post enc Try.prog Try.f4 false true false false) := by
  refine returnsInHanded_of_change_sized (C := Try.checked) own started (by kernel_rfl) Try.func4
    (ChangeSpec.witness6 (enc := enc) (C := Try.checked) false ⟨#[], #[.slice none 0 0, .slice none 0 0], []⟩ 8 (by kernel_rfl) (by kernel_rfl) (by kernel_rfl) (by kernel_rfl)) ?_
  intro W base args ds gs before hval0 hW hcnd hsz0 _
  have hval : ∀ (j : Nat) t v, Try.f4.params[j]? = some t → args[j]? = some v → Value.okWide Try.prog W .any base t v := hval0
  have hsz : (DataW.weightsEach Try.prog (Try.f4.params.toList ++ Rows.diskLoadsSpec.plain.varTypes Try.prog) (ds ++ gs)).all (· ≤ reachBytes) = true := hsz0
  have hW' := hW
  obtain ⟨p, q, hA0, hV, rfl, hfz, hnd⟩ := hW
  have hA : DataW.TrodAll enc Try.prog W 0 (fun _ => true) true Try.f4.params.toList args.toList ds p := hA0
  rw [Try.params4] at hA hval hsz
  obtain ⟨v0, vs0, d0, ds0, p0, q0, hargs, rfl, rfl, h0, r0⟩ := trodAll_cons hA
  obtain ⟨v1, vs1, d1, ds1, p1, q1, rfl, rfl, rfl, h1, r1⟩ := trodAll_cons r0
  obtain ⟨rfl, rfl, rfl⟩ := trodAll_nil r1
  obtain rfl : args = #[v0, v1] := by cases args; simp_all
  obtain ⟨rfl, rfl⟩ := trodVars_none hV
  have k0 := h0
  have lt0 : ∀ x ∈ p0, x.block < W.heap.size := by obtain ⟨m, hm⟩ := k0; exact DataW.trod_lt m _ _ _ hm
  have k1 := h1
  have lt1 : ∀ x ∈ p1, x.block < W.heap.size := by obtain ⟨m, hm⟩ := k1; exact DataW.trod_lt m _ _ _ hm
  obtain ⟨a0, l0, c0, rfl⟩ := okWide_slice Try.underlying28 (hval 0 28 v0 rfl rfl)
  obtain ⟨a1, l1, c1, rfl⟩ := okWide_slice Try.underlying22 (hval 1 22 v1 rfl rfl)
  obtain ⟨fuel0, hf0⟩ := h0
  obtain ⟨fuel1, hf1⟩ := h1
  have hw0 : ∀ m ∈ d0.weights Try.prog 28, m ≤ reachBytes := fun m hm => by
    have h9 := List.all_eq_true.1 hsz m (DataW.weights_mem_each (j := 0) (t := 28) (d := d0) rfl rfl m hm)
    simpa using h9
  have hw1 : ∀ m ∈ d1.weights Try.prog 22, m ≤ reachBytes := fun m hm => by
    have h9 := List.all_eq_true.1 hsz m (DataW.weights_mem_each (j := 1) (t := 22) (d := d1) rfl rfl m hm)
    simpa using h9
  obtain ⟨fa, fc, fs, hfe, hfx, hfl, hff⟩ := inFilesB (x := (d0, p0)) hw0 (by simpa [Value.cells] using hf0)
  obtain ⟨ea, ec, es, he, hx, hex, hsm⟩ := inOpsB (x := (d1, p1)) hw1 (by simpa [Value.cells] using hf1)
  cases hfe
  cases he
  clear hA0 hval0
  refine (diskLoads_walk _ _ _ _ fs es W hfx hff hfl hx hex hsm).mono fun e W' ⟨he, bel⟩ => ?_
  subst he
  exact ⟨_, rfl, _, _, _, [], _, [], hW', trodAll_mk1 (shut_bool Try.underlying4 _), (trodAll_cons_mk (Below.trod laidOut (by kernel_rfl) (of_decide_eq_true (by kernel_rfl)) k0 bel lt0) (trodAll_cons_mk (Below.trod laidOut (by kernel_rfl) (of_decide_eq_true (by kernel_rfl)) k1 bel lt1) trodAll_mk0)), rfl, bel.frame _, fun h => by cases h⟩

theorem diskLoads_holds : Rows.DiskLoadsSaid :=
  OpenClaim.holds_of_wide 4 Try.f4 rfl rfl rfl rfl rfl rfl rfl ⟨rfl, rfl, rfl, rfl, rfl⟩ rfl rfl rfl rfl rfl (by kernel_rfl) Try.func4 (by kernel_rfl)
    (of_decide_eq_true (by kernel_rfl)) (by unfold Func.isWrapper; first | (rw [if_pos (by decide +kernel)]; kernel_rfl) | (rw [if_neg (by decide +kernel)]; exact ⟨rfl, rfl⟩))
    (fun os started H enc _ => diskLoads_lifted os started H enc)
#print axioms diskLoads_holds
end Go.Proofs.Ytbjnhohfdpdcnaa
