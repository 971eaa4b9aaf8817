/-
  What came in, as the walks read it.
-/
import Derived.Test.YtefbfjlmhfmiiaaRows
import Derived.Test.YtefbfjlmhfmiiaaFw
import Derived.WalkKit
import Derived.ProofKit
import Derived.OpenShut
import Derived.ShutString
import Derived.ChangeOld
import Derived.Deep.SlicePairs
import Derived.SizedLaws
namespace Go.Proofs.Ytefbfjlmhfmiiaa
open Go.ChangeShapes Go.WideShapes Go.ChangeAt Go.RowKit
set_option linter.unusedVariables false

theorem own : ownKnob Try.prog.godebug = none := by kernel_rfl
theorem laidOut : laidOutB Try.prog = true := by kernel_rfl
def In64 (x : Int) : Prop := -9223372036854775808 ≤ x ∧ x ≤ 9223372036854775807

/-- A slice of integers that came in: nil, or a row of cells. -/
def IsRow (k : IntKind) (w : World) (a : Option Addr) (len cap : Nat) (zs : List Int) : Prop :=
  (a = none ∧ len = 0 ∧ cap = 0 ∧ zs = []) ∨
  ∃ x, a = some x ∧ len ≤ cap ∧ cap ≤ maxLen ∧ zs.length = cap ∧ (∀ i, i < zs.length → w.cell? (x.add i) = some (.int k (zs.getD i 0))) ∧ ∀ n ∈ zs, (Lit.int k n).wf = true

theorem cell_lt {w : World} {p : Addr} {v : Value} (h : w.cell? p = some v) : p.block < w.heap.size := by
  exact World.block_lt_of_cell? w p h

theorem isRow_sl {w : World} {a : Option Addr} {len cap : Nat} {zs : List Int} (h : IsRow .u8 w a len cap zs) : ∃ l : List UInt8, l.length = len ∧ Sl w.heap.size w (.slice a len cap) l := by
  rcases h with ⟨rfl, rfl, rfl, rfl⟩ | ⟨x, rfl, hl, hm, hz, hc, hwf⟩
  · exact ⟨[], rfl, Sl.nil _ _⟩
  · refine ⟨(zs.take len).map (fun z => UInt8.ofNat z.toNat), by simp; omega, ?_⟩
    have hlen : ((zs.take len).map (fun z => UInt8.ofNat z.toNat)).length = len := by simp; omega
    refine ⟨some x, cap, by rw [hlen], by omega, hm, ?_⟩
    by_cases h0 : len = 0
    · subst h0; exact .inl (by simp)
    · obtain ⟨b, off, spot⟩ := x
      have hc0 := hc 0 (by omega)
      have hspot : spot = none := by simpa [Addr.add] using World.cell?_spot hc0
      subst hspot
      refine .inr ⟨b, off, rfl, ?_, fun i hi => ?_⟩
      · have := cell_lt hc0; rw [Addr.add_lit] at this; exact this
      · rw [hlen] at hi
        have h1 := hc i (by omega)
        rw [Addr.add_lit] at h1
        rw [h1]
        have hmem : zs.getD i 0 ∈ zs := by
          rw [List.getD_eq_getElem?_getD, List.getElem?_eq_getElem (by omega)]; exact List.getElem_mem _
        have hb := bounds_u8 (hwf _ hmem)
        simp only [List.getElem?_map, List.getElem?_take, hi, if_true, List.getD_eq_getElem?_getD] at hb ⊢
        rw [List.getElem?_eq_getElem (by omega)] at hb ⊢
        simp only [Option.getD_some, Option.map_some, encB] at hb ⊢
        congr 2
        simp
        omega

theorem cellsOfI : Try.prog.cellsOf 3 = 1 := by kernel_rfl
theorem cellsOfB : Try.prog.cellsOf 30 = 1 := by kernel_rfl
theorem cellsOfU : Try.prog.cellsOf 4 = 1 := by kernel_rfl
theorem cellsOfO : Try.prog.cellsOf 32 = 5 := by kernel_rfl
theorem list5 {α : Type} {cs : List α} (h : cs.length = 5) : ∃ v0 v1 v2 v3 v4, cs = [v0, v1, v2, v3, v4] := by
  match cs, h with
  | [v0, v1, v2, v3, v4], _ => exact ⟨_, _, _, _, _, rfl⟩
theorem underO : ∃ f0 f1 f2 f3 f4 : Field, Try.prog.underlying 32 = some (.struct #[f0, f1, f2, f3, f4]) ∧ (f0.offset = 0 ∧ f1.offset = 1 ∧ f2.offset = 2 ∧ f3.offset = 3 ∧ f4.offset = 4) ∧ f0.type = 3 ∧ f1.type = 3 ∧ f2.type = 3 ∧ f3.type = 4 ∧ f4.type = 30 := ⟨_, _, _, _, _, Try.underlying32, ⟨rfl, rfl, rfl, rfl, rfl⟩, rfl, rfl, rfl, rfl, rfl⟩

theorem mem_weightsAll {H : Type} {P : Program} {e : TypeId} {d : DataW H} : ∀ {l : List (DataW H)}, d ∈ l → ∀ {m : Nat}, m ∈ d.weights P e → m ∈ DataW.weightsAll P e l
  | [], h, _, _ => by simp at h
  | x :: r, h, m, hm => by
    simp only [DataW.weightsAll, List.mem_append]
    rcases List.mem_cons.1 h with rfl | h
    · exact .inl hm
    · exact .inr (mem_weightsAll h hm)

set_option maxRecDepth 100000 in
/-- Bytes that came in. -/
theorem inBytesB {H : Type} {enc : TypeId × Value → H} {W : World} {n : Nat} {v : Value} {x : DataW H × List MemPlace} (hw : ∀ m ∈ x.1.weights Try.prog 30, m ≤ reachBytes) (h : DataW.trod enc Try.prog W 0 (fun _ => true) true n 30 [v] = some x) :
    ∃ (a : Option Addr) (c : Nat) (l : List UInt8), v = .slice a l.length c ∧ Sl W.heap.size W (.slice a l.length c) l ∧ l.length ≤ 140737488351232 := by
  obtain ⟨a4, n4, k4, e4, ⟨zs, w4⟩, hn4⟩ : ∃ a4 n4 k4, v = .slice a4 n4 k4 ∧ (∃ zs, IsRow .u8 W a4 n4 k4 zs) ∧ n4 ≤ 140737488351232 := by
    rcases open_ints Try.underlying30 Try.underlying5 (by kernel_rfl) h with ⟨hcs, _⟩ | ⟨x, l, c, zs, hcs, _, hl, hm, hz, hxz, hcell, hwz⟩
    · simp at hcs
      exact ⟨none, 0, 0, hcs, ⟨[], .inl ⟨rfl, rfl, rfl, rfl⟩⟩, Nat.zero_le _⟩
    · simp at hcs
      refine ⟨some x, l, c, hcs, ⟨zs, .inr ⟨_, rfl, hl, hm, by simpa using hz, hcell, hwz⟩⟩, ?_⟩
      have hb5 : Try.prog.bytesOf 5 = 1 := by kernel_rfl
      have h9 := hw ((lits .u8 (zs.take l)).length + (lits .u8 (zs.drop l)).length) (by
        rw [hxz]
        simp only [DataW.weights, Try.underlying30, hb5, Nat.mul_one]
        exact List.mem_cons_self)
      have h8 : (lits (H := H) .u8 (zs.take l)).length = l := by
        have hzl : l ≤ zs.length := by simp at hz; omega
        simp [lits]
        omega
      rw [h8] at h9
      unfold reachBytes at h9
      omega
  subst e4
  obtain ⟨l, hl, hs⟩ := isRow_sl w4
  subst hl
  exact ⟨a4, k4, l, rfl, hs, hn4⟩

set_option maxRecDepth 100000 in
/-- An operation that came in. -/
theorem inOpB {H : Type} {enc : TypeId × Value → H} {W : World} {n : Nat} {cs : List Value} {x : DataW H × List MemPlace} (hlen : cs.length = 5) (hw : ∀ m ∈ x.1.weights Try.prog 32, m ≤ reachBytes) (h : DataW.trod enc Try.prog W 0 (fun _ => true) true n 32 cs = some x) :
    ∃ o : Opn, cs = [.int .i64 o.kd, .int .i64 o.a, .int .i64 o.b, .bool o.up, .slice o.da o.d.length o.dc] ∧ Sl W.heap.size W (.slice o.da o.d.length o.dc) o.d ∧ OpnIn o := by
  obtain ⟨f0, f1, f2, f3, f4, hu, ⟨o0, o1, o2, o3, o4⟩, t0, t1, t2, t3, t4⟩ := underO
  obtain ⟨xs, k, _, hxy, _, hxl, hf⟩ := DataW.trod_struct hu h
  obtain ⟨v0, v1, v2, v3, v4, rfl⟩ := list5 hlen
  obtain ⟨y0, y1, y2, y3, y4, rfl⟩ := list5 hxl
  have hw5 : ∀ m ∈ y4.1.weights Try.prog 30, m ≤ reachBytes := fun m hm => by
    refine hw m ?_
    rw [hxy]
    simp only [DataW.weights, hu]
    have e : (#[f0, f1, f2, f3, f4] : Array Field).toList.map (·.type) = [3, 3, 3, 4, 30] := by simp [t0, t1, t2, t3, t4]
    rw [e]
    simp only [List.map_cons, List.map_nil, DataW.weightsEach, List.mem_append]
    exact .inr (.inr (.inr (.inr (.inl hm))))
  have g0 := hf 0 f0 rfl
  rw [o0, t0, cellsOfI] at g0
  have g1 := hf 1 f1 rfl
  rw [o1, t1, cellsOfI] at g1
  have g2 := hf 2 f2 rfl
  rw [o2, t2, cellsOfI] at g2
  have g3 := hf 3 f3 rfl
  rw [o3, t3, cellsOfU] at g3
  have g4 := hf 4 f4 rfl
  rw [o4, t4, cellsOfB] at g4
  simp at g0 g1 g2 g3 g4
  obtain ⟨z0, e0, -, -⟩ := DataW.trod_int Try.underlying3 g0
  simp at e0
  subst e0
  obtain ⟨z1, e1, -, hb1⟩ := DataW.trod_int Try.underlying3 g1
  simp at e1
  subst e1
  obtain ⟨z2, e2, -, hb2⟩ := DataW.trod_int Try.underlying3 g2
  simp at e2
  subst e2
  obtain ⟨z3, e3, -⟩ := DataW.trod_bool Try.underlying4 g3
  simp at e3
  subst e3
  obtain ⟨a, c, l, rfl, hs, hn5⟩ := inBytesB hw5 g4
  exact ⟨⟨z0, z1, z2, z3, a, c, l⟩, rfl, hs, by have := bounds_i64 hb2; show z2 ≤ _; omega, hn5⟩

set_option maxRecDepth 100000 in
/-- Operations that came in. -/
theorem inOpsB {H : Type} {enc : TypeId × Value → H} {W : World} {n : Nat} {v : Value} {x : DataW H × List MemPlace} (hw : ∀ m ∈ x.1.weights Try.prog 22, m ≤ reachBytes) (h : DataW.trod enc Try.prog W 0 (fun _ => true) true n 22 [v] = some x) :
    ∃ (ea : Option Addr) (ec : Nat) (es : List Opn), v = .slice ea es.length ec ∧ OpsAt W.heap.size W ea es ∧ es.length ≤ ec ∧ ec ≤ maxLen ∧ ∀ i, i < es.length → OpnIn (es.getD i nilOpn) := by
  rcases Deep.open_slice Try.underlying22 h with ⟨hcs, _⟩ | ⟨x, l, c, m, n, E, Pl, hcs, _, hl, hm, hmm, hx, hcell⟩
  · simp at hcs
    exact ⟨none, 0, [], hcs, .inl rfl, Nat.le_refl _, by unfold maxLen; omega, fun i hi => by simp at hi⟩
  · simp at hcs
    by_cases hz : l = 0
    · subst hz; exact ⟨some x, c, [], hcs, .inl rfl, Nat.zero_le _, hm, fun i hi => by simp at hi⟩
    · have hml : l ≤ m := by rw [hmm]; split <;> omega
      obtain ⟨b, off, spot⟩ := x
      have hspot : spot = none := by
        obtain ⟨cs', hc', -⟩ := hcell 0 (by omega)
        rw [cellsOfO] at hc'
        obtain ⟨_, hlen, hc⟩ := World.cells?_some hc'
        have h00 := hc 0 (by omega)
        rw [List.getElem?_eq_getElem (by omega)] at h00
        simpa [Addr.add] using World.cell?_spot h00
      subst hspot
      have each : ∀ i, i < l → ∃ e : Opn, OpAt W.heap.size W b (off + i * 5) e ∧ OpnIn e := by
        intro i hi
        obtain ⟨cs', hc', ht⟩ := hcell i (by omega)
        rw [cellsOfO, Addr.add_lit] at hc'
        obtain ⟨_, hlen, hc⟩ := World.cells?_some hc'
        obtain ⟨o, rfl, hs1, hs4⟩ := inOpB hlen (fun m hm => hw m (by
          rw [hx]
          simp only [DataW.weights, Try.underlying22]
          refine List.mem_cons_of_mem _ (List.mem_append.2 (.inl (mem_weightsAll (d := E i) ?_ hm)))
          exact List.mem_map_of_mem (List.mem_range.2 hi))) ht
        have c0 := hc 0 (by omega)
        have c1 := hc 1 (by omega)
        have c2 := hc 2 (by omega)
        have c3 := hc 3 (by omega)
        have c4 := hc 4 (by omega)
        rw [Addr.add_lit] at c0 c1 c2 c3 c4
        simp at c0 c1 c2 c3 c4
        exact ⟨o, ⟨⟨c0, c1, c2, c3, c4⟩, hs1⟩, hs4⟩
      have inh : Inhabited Opn := ⟨nilOpn⟩
      obtain ⟨D, hD⟩ := Deep.choose_lt each
      have hlt : b < W.heap.size := cell_lt (hD 0 (by omega)).1.1.1
      refine ⟨some ⟨b, off, none⟩, c, (List.range l).map D, by simpa using hcs, .inr ⟨b, off, rfl, hlt, fun i hi => ?_⟩, by simpa using hl, hm, fun i hi => ?_⟩
      · simp at hi
        rw [show ((List.range l).map D).getD i nilOpn = D i by simp [hi]]
        exact (hD i hi).1
      · simp at hi
        rw [show ((List.range l).map D).getD i nilOpn = D i by simp [hi]]
        exact (hD i hi).2
end Go.Proofs.Ytefbfjlmhfmiiaa
