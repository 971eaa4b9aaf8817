/-
  For every operations the law DiskPlays returns true: any operations, one behind the other, are answered, and leave the disk, as the document says; no condition.
-/
import Derived.Test.YtbjnhohfdpdcnaaPla
import Derived.Test.YtbjnhohfdpdcnaaRowIn
import Derived.Deep.SlicePairs
import Derived.SizedLaws
namespace Go.Proofs.Ytbjnhohfdpdcnaa
open Go.ChangeShapes Go.WideShapes Go.ChangeAt Go.RowKit
set_option linter.unusedVariables false

theorem mem_weightsAll {H : Type} {P : Program} {e : TypeId} {d : DataW H} : ∀ {l : List (DataW H)}, d ∈ l → ∀ {m : Nat}, m ∈ d.weights P e → m ∈ DataW.weightsAll P e l
  | [], h, _, _ => by simp at h
  | x :: r, h, m, hm => by
    simp only [DataW.weightsAll, List.mem_append]
    rcases List.mem_cons.1 h with rfl | h
    · exact .inl hm
    · exact .inr (mem_weightsAll h hm)

set_option maxRecDepth 100000 in
/-- An operation that came in. -/
theorem inOpB {H : Type} {enc : TypeId × Value → H} {W : World} {n : Nat} {cs : List Value} {x : DataW H × List MemPlace} (hlen : cs.length = 5) (hw : ∀ m ∈ x.1.weights Try.prog 34, m ≤ reachBytes) (h : DataW.trod enc Try.prog W 0 (fun _ => true) true n 34 cs = some x) :
    ∃ (kd : Int) (q : Int) (nm to : List UInt8) (a : Option Addr) (cap : Nat) (m : List UInt8), cs = [.int .i64 kd, .int .i64 q, .string ⟨nm.toArray⟩, .string ⟨to.toArray⟩, .slice a m.length cap] ∧ Sl W.heap.size W (.slice a m.length cap) m ∧ nm.length ≤ maxLen ∧ to.length ≤ maxLen ∧ q < 9223372036854775808 ∧ m.length ≤ 140737488351232 := by
  obtain ⟨f0, f1, f2, f3, f4, hu, ⟨o0, o1, o2, o3, o4⟩, t0, t1, t2, t3, t4⟩ := under34
  obtain ⟨xs, k, _, hxy, _, hxl, hf⟩ := DataW.trod_struct hu h
  obtain ⟨v0, v1, v2, v3, v4, rfl⟩ := list5 hlen
  obtain ⟨y0, y1, y2, y3, y4, rfl⟩ := list5 hxl
  have hw4 : ∀ m ∈ y4.1.weights Try.prog 32, m ≤ reachBytes := fun m hm => by
    refine hw m ?_
    rw [hxy]
    simp only [DataW.weights, hu]
    have e : (#[f0, f1, f2, f3, f4] : Array Field).toList.map (·.type) = [3, 3, 9, 9, 32] := by simp [t0, t1, t2, t3, t4]
    rw [e]
    simp only [List.map_cons, List.map_nil, DataW.weightsEach, List.mem_append]
    exact .inr (.inr (.inr (.inr (.inl hm))))
  have g0 := hf 0 f0 rfl
  rw [o0, t0, cellsOf3] at g0
  have g1 := hf 1 f1 rfl
  rw [o1, t1, cellsOf3] at g1
  have g2 := hf 2 f2 rfl
  rw [o2, t2, cellsOf9] at g2
  have g3 := hf 3 f3 rfl
  rw [o3, t3, cellsOf9] at g3
  have g4 := hf 4 f4 rfl
  rw [o4, t4, cellsOf32] at g4
  simp at g0 g1 g2 g3 g4
  obtain ⟨z0, e0, -, -⟩ := DataW.trod_int Try.underlying3 g0
  simp at e0
  subst e0
  obtain ⟨z1, e1, -, hw1⟩ := DataW.trod_int Try.underlying3 g1
  simp at e1
  subst e1
  obtain ⟨z2, e2, -, hl2⟩ := DataW.trod_string Try.underlying9 g2
  simp at e2
  subst e2
  obtain ⟨z3, e3, -, hl3⟩ := DataW.trod_string Try.underlying9 g3
  simp at e3
  subst e3
  obtain ⟨a4, n4, k4, e4, ⟨zs, w4⟩, hn4⟩ : ∃ a4 n4 k4, v4 = .slice a4 n4 k4 ∧ (∃ zs, IsRow .u8 W a4 n4 k4 zs) ∧ n4 ≤ 140737488351232 := by
    rcases open_ints Try.underlying32 Try.underlying5 (by kernel_rfl) g4 with ⟨hcs, _⟩ | ⟨x, l, c, zs, hcs, _, hl, hm, hz, hxz, hcell, hwz⟩
    · simp at hcs
      exact ⟨none, 0, 0, hcs, ⟨[], .inl ⟨rfl, rfl, rfl, rfl⟩⟩, Nat.zero_le _⟩
    · simp at hcs
      refine ⟨some x, l, c, hcs, ⟨zs, .inr ⟨_, rfl, hl, hm, by simpa using hz, hcell, hwz⟩⟩, ?_⟩
      have hb5 : Try.prog.bytesOf 5 = 1 := by kernel_rfl
      have h9 := hw4 ((lits .u8 (zs.take l)).length + (lits .u8 (zs.drop l)).length) (by
        rw [hxz]
        simp only [DataW.weights, Try.underlying32, hb5, Nat.mul_one]
        exact List.mem_cons_self)
      have h8 : (lits (H := H) .u8 (zs.take l)).length = l := by
        have hzl : l ≤ zs.length := by simp at hz; omega
        simp [lits]
        omega
      rw [h8] at h9
      unfold reachBytes at h9
      omega
  subst e4
  obtain ⟨l, hl, hs⟩ := isRow_sl w4
  subst hl
  refine ⟨z0, z1, z2.data.toList, z3.data.toList, a4, k4, l, by simp, hs, ?_, ?_, ?_, hn4⟩
  · rw [Array.length_toList]; exact hl2
  · rw [Array.length_toList]; exact hl3
  · have := bounds_i64 hw1
    omega
set_option maxRecDepth 100000 in
/-- Operations that came in. -/
theorem inOpsB {H : Type} {enc : TypeId × Value → H} {W : World} {n : Nat} {v : Value} {x : DataW H × List MemPlace} (hw : ∀ m ∈ x.1.weights Try.prog 22, m ≤ reachBytes) (h : DataW.trod enc Try.prog W 0 (fun _ => true) true n 22 [v] = some x) :
    ∃ (ea : Option Addr) (ec : Nat) (es : List Opn), v = .slice ea es.length ec ∧ OpsAt W.heap.size W ea es ∧ es.length ≤ 9223372036854775807 ∧ OpsSmall es := by
  rcases Deep.open_slice Try.underlying22 h with ⟨hcs, _⟩ | ⟨x, l, c, m, n, E, Pl, hcs, _, hl, hm, hmm, hx, hcell⟩
  · simp at hcs
    exact ⟨none, 0, [], hcs, .inl rfl, Nat.zero_le _, fun i hi => by simp at hi⟩
  · simp at hcs
    have hlm : l ≤ 9223372036854775807 := by have := hm; unfold maxLen at this; omega
    by_cases hz : l = 0
    · subst hz; exact ⟨some x, c, [], hcs, .inl rfl, Nat.zero_le _, fun i hi => by simp at hi⟩
    · have hml : l ≤ m := by rw [hmm]; split <;> omega
      obtain ⟨b, off, spot⟩ := x
      have hspot : spot = none := by
        obtain ⟨cs', hc', -⟩ := hcell 0 (by omega)
        rw [cellsOf34] at hc'
        obtain ⟨_, hlen, hc⟩ := World.cells?_some hc'
        have h00 := hc 0 (by omega)
        rw [List.getElem?_eq_getElem (by omega)] at h00
        simpa [Addr.add] using World.cell?_spot h00
      subst hspot
      have each : ∀ i, i < l → ∃ e : Opn, OpAt W.heap.size W b (off + i * 5) e ∧ e.b.length ≤ 140737488351232 := by
        intro i hi
        obtain ⟨cs', hc', ht⟩ := hcell i (by omega)
        rw [cellsOf34, Addr.add_lit] at hc'
        obtain ⟨_, hlen, hc⟩ := World.cells?_some hc'
        obtain ⟨kd, q, nm, to, a, cap, bb, rfl, hs, h1, h2, h3, h4⟩ := inOpB hlen (fun m hm => hw m (by
          rw [hx]
          simp only [DataW.weights, Try.underlying22]
          refine List.mem_cons_of_mem _ (List.mem_append.2 (.inl (mem_weightsAll (d := E i) ?_ hm)))
          exact List.mem_map_of_mem (List.mem_range.2 hi))) ht
        have c0 := hc 0 (by omega)
        have c1 := hc 1 (by omega)
        have c2 := hc 2 (by omega)
        have c3 := hc 3 (by omega)
        have c4 := hc 4 (by omega)
        rw [Addr.add_lit] at c0 c1 c2 c3 c4
        simp at c0 c1 c2 c3 c4
        exact ⟨⟨kd, q, nm, to, a, cap, bb⟩, ⟨⟨c0, c1, c2, c3, c4⟩, hs, h1, h2, h3⟩, h4⟩
      have inh : Inhabited Opn := ⟨nilOp⟩
      obtain ⟨D, hD⟩ := Deep.choose_lt each
      have hlt : b < W.heap.size := cell_lt (hD 0 (by omega)).1.1.1
      refine ⟨some ⟨b, off, none⟩, c, (List.range l).map D, by simpa using hcs, .inr ⟨b, off, rfl, hlt, fun i hi => ?_⟩, by simpa using hlm, fun i hi => ?_⟩
      · simp at hi
        rw [show ((List.range l).map D).getD i nilOp = D i by simp [hi]]
        exact (hD i hi).1
      · simp at hi
        rw [show ((List.range l).map D).getD i nilOp = D i by simp [hi]]
        exact (hD i hi).2

set_option maxRecDepth 100000 in
theorem diskPlays_lifted (os : Os) (started : os.Started) (H : Type) (enc : TypeId × Value → H) :
    ReturnsInHanded {} Try.checked os 3 .any (Rows.diskPlaysSpec.pre6 enc Try.prog Try.f3 Rows.diskPlaysRow.domain false) (Rows.diskPlaysSpec.post enc Try.prog Try.f3 false true false false) := by
  refine returnsInHanded_of_change_sized (C := Try.checked) own started (by kernel_rfl) Try.func3
    (ChangeSpec.witness6 (enc := enc) (C := Try.checked) false ⟨#[], #[.slice none 0 0], []⟩ 8 (by kernel_rfl) (by kernel_rfl) (by kernel_rfl) (by kernel_rfl)) ?_
  intro W base args ds gs before hval0 hW hcnd hsz0 _
  have hval : ∀ (j : Nat) t v, Try.f3.params[j]? = some t → args[j]? = some v → Value.okWide Try.prog W .any base t v := hval0
  have hsz : (DataW.weightsEach Try.prog (Try.f3.params.toList ++ Rows.diskPlaysSpec.plain.varTypes Try.prog) (ds ++ gs)).all (· ≤ reachBytes) = true := hsz0
  have hW' := hW
  obtain ⟨p, q, hA0, hV, rfl, hfz, hnd⟩ := hW
  have hA : DataW.TrodAll enc Try.prog W 0 (fun _ => true) true Try.f3.params.toList args.toList ds p := hA0
  rw [Try.params3] at hA hval hsz
  obtain ⟨v0, vs0, d0, ds0, p0, q0, hargs, rfl, rfl, h0, r0⟩ := trodAll_cons hA
  obtain ⟨rfl, rfl, rfl⟩ := trodAll_nil r0
  obtain rfl : args = #[v0] := by cases args; simp_all
  obtain ⟨rfl, rfl⟩ := trodVars_none hV
  have k0 := h0
  have lt0 : ∀ x ∈ p0, x.block < W.heap.size := by obtain ⟨m, hm⟩ := k0; exact DataW.trod_lt m _ _ _ hm
  obtain ⟨a0, l0, c0, rfl⟩ := okWide_slice Try.underlying22 (hval 0 22 v0 rfl rfl)
  obtain ⟨fuel0, hf0⟩ := h0
  have hw0 : ∀ m ∈ d0.weights Try.prog 22, m ≤ reachBytes := fun m hm => by
    have h9 := List.all_eq_true.1 hsz m (DataW.weights_mem_each (j := 0) (t := 22) (d := d0) rfl rfl m hm)
    simpa using h9
  obtain ⟨ea, ec, es, he, hx, hex, hsm⟩ := inOpsB (x := (d0, p0)) hw0 (by simpa [Value.cells] using hf0)
  cases he
  clear hA0 hval0
  refine (diskPlays_walk _ _ es W hx hex hsm).mono fun e W' ⟨he, bel⟩ => ?_
  subst he
  exact ⟨_, rfl, _, _, _, [], _, [], hW', trodAll_mk1 (shut_bool Try.underlying4 _), (trodAll_cons_mk (Below.trod laidOut (by kernel_rfl) (of_decide_eq_true (by kernel_rfl)) k0 bel lt0) trodAll_mk0), rfl, bel.frame _, fun h => by cases h⟩

theorem diskPlays_holds : Rows.DiskPlaysSaid :=
  OpenClaim.holds_of_wide 3 Try.f3 rfl rfl rfl rfl rfl rfl rfl ⟨rfl, rfl, rfl, rfl, rfl⟩ rfl rfl rfl rfl rfl (by kernel_rfl) Try.func3 (by kernel_rfl)
    (of_decide_eq_true (by kernel_rfl)) (by unfold Func.isWrapper; first | (rw [if_pos (by decide +kernel)]; kernel_rfl) | (rw [if_neg (by decide +kernel)]; exact ⟨rfl, rfl⟩))
    (fun os started H enc _ => diskPlays_lifted os started H enc)
#print axioms diskPlays_holds
end Go.Proofs.Ytbjnhohfdpdcnaa
