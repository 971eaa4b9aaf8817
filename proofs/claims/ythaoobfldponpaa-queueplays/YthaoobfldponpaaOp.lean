/-
  Operations that came in, as the walks read them; numbers made small.
-/
import Derived.Test.YthaoobfldponpaaRows
import Derived.Test.YthaoobfldponpaaBas
import Derived.WalkKit
import Derived.ProofKit
import Derived.OpenShut
import Derived.ShutString
import Derived.ChangeOld
import Derived.Deep.SlicePairs
namespace Go.Proofs.Ythaoobfldponpaa
open Go.ChangeShapes Go.WideShapes Go.ChangeAt Go.RowKit
set_option linter.unusedVariables false

theorem own : ownKnob Try.prog.godebug = none := by kernel_rfl
theorem laidOut : laidOutB Try.prog = true := by kernel_rfl

/-- An operation. -/
structure Opn where
  kd : Int
  n : Int
  lane : Int
def nilOp : Opn := ⟨0, 0, 0⟩
def In64 (x : Int) : Prop := -9223372036854775808 ≤ x ∧ x ≤ 9223372036854775807
def OpAt (W : World) (b o : Nat) (x : Opn) : Prop :=
  (W.cell? ⟨b, o, none⟩ = some (.int .i64 x.kd) ∧ W.cell? ⟨b, o + 1, none⟩ = some (.int .i64 x.n) ∧ W.cell? ⟨b, o + 2, none⟩ = some (.int .i64 x.lane)) ∧ In64 x.kd ∧ In64 x.n ∧ In64 x.lane
def OpsAt (N : Nat) (W : World) (a : Option Addr) (l : List Opn) : Prop :=
  l = [] ∨ ∃ b off, a = some ⟨b, off, none⟩ ∧ b < N ∧ ∀ i, i < l.length → OpAt W b (off + i * 3) (l.getD i nilOp)
theorem OpAt.below {N : Nat} {w w' : World} {b o : Nat} {x : Opn} (h : OpAt w b o x) (hb : b < N) (hB : Below N w w') : OpAt w' b o x := by
  obtain ⟨⟨h0, h1, h2⟩, r⟩ := h
  exact ⟨⟨(hB.cell (p := ⟨b, o, none⟩) hb).trans h0, (hB.cell (p := ⟨b, o + 1, none⟩) hb).trans h1, (hB.cell (p := ⟨b, o + 2, none⟩) hb).trans h2⟩, r⟩
theorem OpsAt.at {N : Nat} {w : World} {a : Option Addr} {l : List Opn} (h : OpsAt N w a l) {i : Nat} (hi : i < l.length) : ∃ b off, a = some ⟨b, off, none⟩ ∧ b < N ∧ OpAt w b (off + i * 3) (l.getD i nilOp) := by
  rcases h with rfl | ⟨b, off, ha, hb, h⟩
  · simp at hi
  · exact ⟨b, off, ha, hb, h i hi⟩

/-- A number of any kind made one of 1 to m. -/
theorem small (m : Nat) (hm : 1 ≤ m) (hm2 : m ≤ 64) (r : Int) (hr : In64 r) : ∃ (x y : Int) (R : Nat), r.tmod (m : Int) = x ∧ IntKind.i64.wrap (x + (m : Int)) = x + (m : Int) ∧ (x + (m : Int)).tmod (m : Int) = y ∧ IntKind.i64.wrap (y + 1) = (R : Int) ∧ 1 ≤ R ∧ R ≤ m ∧ y = ((R - 1 : Nat) : Int) := by
  have h1 : -(m : Int) < r.tmod (m : Int) := by
    have h := Int.natAbs_tmod r (m : Int)
    have h' := Nat.mod_lt r.natAbs (y := (m : Int).natAbs) (by omega)
    rw [← h] at h'
    omega
  have h2 : r.tmod (m : Int) < (m : Int) := Int.tmod_lt_of_pos r (by omega)
  have h3 : 0 ≤ (r.tmod (m : Int) + (m : Int)).tmod (m : Int) := Int.tmod_nonneg _ (by omega)
  have h4 : (r.tmod (m : Int) + (m : Int)).tmod (m : Int) < (m : Int) := Int.tmod_lt_of_pos _ (by omega)
  refine ⟨_, _, ((r.tmod (m : Int) + (m : Int)).tmod (m : Int)).toNat + 1, rfl, ?_, rfl, ?_, by omega, by omega, by omega⟩
  · rw [IntKind.wrap_i64]; omega
  · rw [IntKind.wrap_i64]; omega

theorem cell_lt {w : World} {p : Addr} {v : Value} (h : w.cell? p = some v) : p.block < w.heap.size := World.block_lt_of_cell? w p h
theorem cellsOf3 : Try.prog.cellsOf 3 = 1 := by kernel_rfl
theorem cellsOf28 : Try.prog.cellsOf 28 = 3 := by kernel_rfl
theorem list3 {α : Type} {cs : List α} (h : cs.length = 3) : ∃ v0 v1 v2, cs = [v0, v1, v2] := by
  match cs, h with
  | [v0, v1, v2], _ => exact ⟨_, _, _, rfl⟩
theorem under28 : ∃ f0 f1 f2 : Field, Try.prog.underlying 28 = some (.struct #[f0, f1, f2]) ∧ (f0.offset = 0 ∧ f1.offset = 1 ∧ f2.offset = 2) ∧ f0.type = 3 ∧ f1.type = 3 ∧ f2.type = 3 := ⟨_, _, _, Try.underlying28, ⟨rfl, rfl, rfl⟩, rfl, rfl, rfl⟩

set_option maxRecDepth 100000 in
/-- An operation that came in. -/
theorem inOp {H : Type} {enc : TypeId × Value → H} {W : World} {n : Nat} {cs : List Value} {x : DataW H × List MemPlace} (hlen : cs.length = 3) (h : DataW.trod enc Try.prog W 0 (fun _ => true) true n 28 cs = some x) :
    ∃ kd q lane : Int, cs = [.int .i64 kd, .int .i64 q, .int .i64 lane] ∧ In64 kd ∧ In64 q ∧ In64 lane := by
  obtain ⟨f0, f1, f2, hu, ⟨o0, o1, o2⟩, t0, t1, t2⟩ := under28
  obtain ⟨xs, k, _, _, _, hxl, hf⟩ := DataW.trod_struct hu h
  obtain ⟨v0, v1, v2, rfl⟩ := list3 hlen
  obtain ⟨y0, y1, y2, rfl⟩ := list3 hxl
  have g0 := hf 0 f0 rfl
  rw [o0, t0, cellsOf3] at g0
  have g1 := hf 1 f1 rfl
  rw [o1, t1, cellsOf3] at g1
  have g2 := hf 2 f2 rfl
  rw [o2, t2, cellsOf3] at g2
  simp at g0 g1 g2
  obtain ⟨z0, e0, -, hw0⟩ := DataW.trod_int Try.underlying3 g0
  simp at e0
  subst e0
  obtain ⟨z1, e1, -, hw1⟩ := DataW.trod_int Try.underlying3 g1
  simp at e1
  subst e1
  obtain ⟨z2, e2, -, hw2⟩ := DataW.trod_int Try.underlying3 g2
  simp at e2
  subst e2
  have b0 := bounds_i64 hw0
  have b1 := bounds_i64 hw1
  have b2 := bounds_i64 hw2
  exact ⟨z0, z1, z2, rfl, ⟨by omega, by omega⟩, ⟨by omega, by omega⟩, ⟨by omega, by omega⟩⟩

set_option maxRecDepth 100000 in
/-- Operations that came in. -/
theorem inOps {H : Type} {enc : TypeId × Value → H} {W : World} {n : Nat} {v : Value} {x : DataW H × List MemPlace} (h : DataW.trod enc Try.prog W 0 (fun _ => true) true n 22 [v] = some x) :
    ∃ (ea : Option Addr) (ec : Nat) (es : List Opn), v = .slice ea es.length ec ∧ OpsAt W.heap.size W ea es ∧ es.length ≤ 9223372036854775807 := by
  rcases Deep.open_slice Try.underlying22 h with ⟨hcs, _⟩ | ⟨x, l, c, m, n, E, Pl, hcs, _, hl, hm, hmm, hx, hcell⟩
  · simp at hcs
    exact ⟨none, 0, [], hcs, .inl rfl, Nat.zero_le _⟩
  · simp at hcs
    have hlm : l ≤ 9223372036854775807 := by have := hm; unfold maxLen at this; omega
    by_cases hz : l = 0
    · subst hz; exact ⟨some x, c, [], hcs, .inl rfl, Nat.zero_le _⟩
    · have hml : l ≤ m := by rw [hmm]; split <;> omega
      obtain ⟨b, off, spot⟩ := x
      have hspot : spot = none := by
        obtain ⟨cs', hc', -⟩ := hcell 0 (by omega)
        rw [cellsOf28] at hc'
        obtain ⟨_, hlen, hc⟩ := World.cells?_some hc'
        have h00 := hc 0 (by omega)
        rw [List.getElem?_eq_getElem (by omega)] at h00
        simpa [Addr.add] using World.cell?_spot h00
      subst hspot
      have each : ∀ i, i < l → ∃ e : Opn, OpAt W b (off + i * 3) e := by
        intro i hi
        obtain ⟨cs', hc', ht⟩ := hcell i (by omega)
        rw [cellsOf28, Addr.add_lit] at hc'
        obtain ⟨_, hlen, hc⟩ := World.cells?_some hc'
        obtain ⟨kd, q, lane, rfl, h1, h2, h3⟩ := inOp hlen ht
        have c0 := hc 0 (by omega)
        have c1 := hc 1 (by omega)
        have c2 := hc 2 (by omega)
        rw [Addr.add_lit] at c0 c1 c2
        simp at c0 c1 c2
        exact ⟨⟨kd, q, lane⟩, ⟨c0, c1, c2⟩, h1, h2, h3⟩
      have inh : Inhabited Opn := ⟨nilOp⟩
      obtain ⟨D, hD⟩ := Deep.choose_lt each
      have hlt : b < W.heap.size := cell_lt (hD 0 (by omega)).1.1
      refine ⟨some ⟨b, off, none⟩, c, (List.range l).map D, by simpa using hcs, .inr ⟨b, off, rfl, hlt, fun i hi => ?_⟩, by simpa using hlm⟩
      simp at hi
      rw [show ((List.range l).map D).getD i nilOp = D i by simp [hi]]
      exact hD i hi
end Go.Proofs.Ythaoobfldponpaa
