/-
  The listed variables, out of the row's condition. What came in, as the walks read it: acts, texts, lists of texts.
-/
import Derived.Test.YtbckogojnjmjcaaGreatDoorA8
import Derived.Test.YtbckogojnjmjcaaGreatDoorRows
import Derived.Test.YtbckogojnjmjcaaGreatDoorTie
import Derived.Test.YtbckogojnjmjcaaGreatDoorChecked
import Derived.Lib.LaidTab
import Derived.Stop.LaidErr
import Derived.LaidMore
import Derived.ProofKit
import Derived.Lay
import Derived.OpenShut
import Derived.Stop.Joined
import Derived.SevenTiedAt
import Derived.ShutString
import Derived.ChangeOld
import Derived.SizedLaws
import Derived.Test.YtbckogojnjmjcaaGreatDoorPc
import Derived.Deep.SlicePairs
import Derived.SliceStrings
namespace Go.Proofs.YtbckogojnjmjcaaGreatDoor
open Go.ChangeShapes Go.WideShapes Go.ChangeAt Go.RowKit
set_option linter.unusedVariables false

theorem laidOut : laidOutB Tryz.prog = true := by kernel_rfl
theorem own : ownKnob Tryz.prog.godebug = none := by kernel_rfl
def laid7 : List (String × DataW Unit) := [("math/bits.deBruijn32tab", Rows.laid_math_bits_deBruijn32tab), ("math/bits.deBruijn64tab", Rows.laid_math_bits_deBruijn64tab), ("internal/strconv.uint64pow10", Rows.laid_internal_strconv_uint64pow10), ("unicode/utf8.acceptRanges", Rows.laid_unicode_utf8_acceptRanges), ("strconv.ErrRange", Rows.laid_strconv_ErrRange), ("strconv.ErrSyntax", Rows.laid_strconv_ErrSyntax), ("unicode/utf8.first", Rows.laid_unicode_utf8_first)]
theorem starE : "*" ++ "errors.errorString" = "*errors.errorString" := by decide
theorem rowE (u : TypeId) (h : Tryz.prog.typeName? 3 u = some "*errors.errorString") : u = 211 :=
  typeName_ptr_named (nm := "errors.errorString") (by rw [starE]; kernel_rfl) (by kernel_rfl) (by decide) u (by rw [starE]; exact h)
theorem pow_dat : (Rows.laid_internal_strconv_uint64pow10 : DataW Unit) = Lib.tabData .u64 Lib.pow10Tab := by kernel_rfl
theorem g0E : Tryz.prog.globalNamed "strconv.ErrSyntax" = some 0 := by kernel_rfl
theorem g1E : Tryz.prog.globalNamed "strconv.ErrRange" = some 1 := by kernel_rfl
theorem g2E : Tryz.prog.globalNamed "internal/strconv.uint64pow10" = some 2 := by kernel_rfl
theorem vars_of_laid {W : World} (h : laidMetH Tryz.prog laid7 W) : Vars W := by
  rw [MakeChecks.laidMetH_plain _ _ _ (by kernel_rfl)] at h
  have h2 : laidMet Tryz.prog (("internal/strconv.uint64pow10", Rows.laid_internal_strconv_uint64pow10) :: [("unicode/utf8.acceptRanges", Rows.laid_unicode_utf8_acceptRanges), ("strconv.ErrRange", Rows.laid_strconv_ErrRange), ("strconv.ErrSyntax", Rows.laid_strconv_ErrSyntax), ("unicode/utf8.first", Rows.laid_unicode_utf8_first)]) W := h.tail.tail
  have h3 : laidMet Tryz.prog (("strconv.ErrRange", Rows.laid_strconv_ErrRange) :: [("strconv.ErrSyntax", Rows.laid_strconv_ErrSyntax), ("unicode/utf8.first", Rows.laid_unicode_utf8_first)]) W := h2.tail.tail
  have h4 : laidMet Tryz.prog (("strconv.ErrSyntax", Rows.laid_strconv_ErrSyntax) :: [("unicode/utf8.first", Rows.laid_unicode_utf8_first)]) W := h3.tail
  rw [pow_dat] at h2
  have ht := Lib.tabIs_of_head g2E (by kernel_rfl) Tryz.underlying197 Tryz.underlying177 (by kernel_rfl) (by kernel_rfl) h2
  obtain ⟨a1, s1, hv1, -⟩ := laid_sentinel h3 g1E (by kernel_rfl) Tryz.underlying96 rowE Tryz.underlying211 Tryz.underlying213 rfl rfl Tryz.underlying9 (by kernel_rfl) (by kernel_rfl)
  obtain ⟨a0, s0, hv0, -⟩ := laid_sentinel h4 g0E (by kernel_rfl) Tryz.underlying96 rowE Tryz.underlying211 Tryz.underlying213 rfl rfl Tryz.underlying9 (by kernel_rfl) (by kernel_rfl)
  exact ⟨ht, ⟨_, _, hv0⟩, ⟨_, _, hv1⟩⟩
/-- A heap in which the variables are laid meets the condition. -/
theorem door_met (os : Os) (args : Array Value) : laidMetH Tryz.prog laid7 ((World.laidAll Tryz.prog os laid7).forCall (fun _ _ => 0) ⟨#[], args, []⟩).memory := by
  rw [MakeChecks.laidMetH_plain _ _ _ (by kernel_rfl)]
  exact laidMet_laidAll _ (by kernel_rfl) (by kernel_rfl)
end Go.Proofs.YtbckogojnjmjcaaGreatDoor
namespace Go.Proofs.YtbckogojnjmjcaaGreatDoor
open Go.ChangeShapes Go.WideShapes Go.ChangeAt Go.RowKit
set_option linter.unusedVariables false

theorem cell_lt {w : World} {p : Addr} {v : Value} (h : w.cell? p = some v) : p.block < w.heap.size := World.block_lt_of_cell? w p h
theorem cellsOfI : Tryz.prog.cellsOf 3 = 1 := by kernel_rfl
theorem cellsOfStr : Tryz.prog.cellsOf 9 = 1 := by kernel_rfl
theorem cellsOfA : Tryz.prog.cellsOf 34 = 9 := by kernel_rfl
theorem list9 {α : Type} {cs : List α} (h : cs.length = 9) : ∃ v0 v1 v2 v3 v4 v5 v6 v7 v8, cs = [v0, v1, v2, v3, v4, v5, v6, v7, v8] := by
  match cs, h with
  | [v0, v1, v2, v3, v4, v5, v6, v7, v8], _ => exact ⟨_, _, _, _, _, _, _, _, _, rfl⟩
theorem underA : ∃ f0 f1 f2 f3 f4 f5 f6 f7 f8 : Field, Tryz.prog.underlying 34 = some (.struct #[f0, f1, f2, f3, f4, f5, f6, f7, f8]) ∧ (f0.offset = 0 ∧ f1.offset = 1 ∧ f2.offset = 2 ∧ f3.offset = 3 ∧ f4.offset = 4 ∧ f5.offset = 5 ∧ f6.offset = 6 ∧ f7.offset = 7 ∧ f8.offset = 8) ∧ f0.type = 3 ∧ f1.type = 3 ∧ f2.type = 3 ∧ f3.type = 3 ∧ f4.type = 3 ∧ f5.type = 3 ∧ f6.type = 9 ∧ f7.type = 9 ∧ f8.type = 9 := ⟨_, _, _, _, _, _, _, _, _, Tryz.underlying34, ⟨rfl, rfl, rfl, rfl, rfl, rfl, rfl, rfl, rfl⟩, rfl, rfl, rfl, rfl, rfl, rfl, rfl, rfl, rfl⟩
set_option maxRecDepth 100000 in
theorem inAct {H : Type} {enc : TypeId × Value → H} {W : World} {n : Nat} {cs : List Value} {x : DataW H × List MemPlace} (hlen : cs.length = 9) (h : DataW.trod enc Tryz.prog W 0 (fun _ => true) true n 34 cs = some x) :
    ∃ o : Ac, cs = o.cells.toList ∧ AcIn o := by
  obtain ⟨f0, f1, f2, f3, f4, f5, f6, f7, f8, hu, ⟨o0, o1, o2, o3, o4, o5, o6, o7, o8⟩, t0, t1, t2, t3, t4, t5, t6, t7, t8⟩ := underA
  obtain ⟨xs, k, _, _, _, hxl, hf⟩ := DataW.trod_struct hu h
  obtain ⟨v0, v1, v2, v3, v4, v5, v6, v7, v8, rfl⟩ := list9 hlen
  obtain ⟨y0, y1, y2, y3, y4, y5, y6, y7, y8, rfl⟩ := list9 hxl
  have g0 := hf 0 f0 rfl
  rw [o0, t0, cellsOfI] at g0
  have g1 := hf 1 f1 rfl
  rw [o1, t1, cellsOfI] at g1
  have g2 := hf 2 f2 rfl
  rw [o2, t2, cellsOfI] at g2
  have g3 := hf 3 f3 rfl
  rw [o3, t3, cellsOfI] at g3
  have g4 := hf 4 f4 rfl
  rw [o4, t4, cellsOfI] at g4
  have g5 := hf 5 f5 rfl
  rw [o5, t5, cellsOfI] at g5
  have g6 := hf 6 f6 rfl
  rw [o6, t6, cellsOfStr] at g6
  have g7 := hf 7 f7 rfl
  rw [o7, t7, cellsOfStr] at g7
  have g8 := hf 8 f8 rfl
  rw [o8, t8, cellsOfStr] at g8
  simp at g0 g1 g2 g3 g4 g5 g6 g7 g8
  obtain ⟨z0, e0, -, l0⟩ := DataW.trod_int Tryz.underlying3 g0
  simp at e0
  subst e0
  obtain ⟨z1, e1, -, l1⟩ := DataW.trod_int Tryz.underlying3 g1
  simp at e1
  subst e1
  obtain ⟨z2, e2, -, l2⟩ := DataW.trod_int Tryz.underlying3 g2
  simp at e2
  subst e2
  obtain ⟨z3, e3, -, l3⟩ := DataW.trod_int Tryz.underlying3 g3
  simp at e3
  subst e3
  obtain ⟨z4, e4, -, l4⟩ := DataW.trod_int Tryz.underlying3 g4
  simp at e4
  subst e4
  obtain ⟨z5, e5, -, l5⟩ := DataW.trod_int Tryz.underlying3 g5
  simp at e5
  subst e5
  obtain ⟨z6, e6, -, l6⟩ := DataW.trod_string Tryz.underlying9 g6
  simp at e6
  subst e6
  obtain ⟨z7, e7, -, l7⟩ := DataW.trod_string Tryz.underlying9 g7
  simp at e7
  subst e7
  obtain ⟨z8, e8, -, l8⟩ := DataW.trod_string Tryz.underlying9 g8
  simp at e8
  subst e8
  have b0 := bounds_i64 l0
  have b1 := bounds_i64 l1
  have b2 := bounds_i64 l2
  have b3 := bounds_i64 l3
  have b4 := bounds_i64 l4
  have b5 := bounds_i64 l5
  exact ⟨⟨z0, z1, z2, z3, z4, z5, z6.data.toList, z7.data.toList, z8.data.toList⟩, rfl, ⟨⟨by show _ ≤ z0; omega, by show z0 ≤ _; omega⟩, ⟨by show _ ≤ z1; omega, by show z1 ≤ _; omega⟩, ⟨by show _ ≤ z2; omega, by show z2 ≤ _; omega⟩, ⟨by show _ ≤ z3; omega, by show z3 ≤ _; omega⟩, ⟨by show _ ≤ z4; omega, by show z4 ≤ _; omega⟩, ⟨by show _ ≤ z5; omega, by show z5 ≤ _; omega⟩, by show z6.data.toList.length ≤ _; rw [Array.length_toList]; exact l6, by show z7.data.toList.length ≤ _; rw [Array.length_toList]; exact l7, by show z8.data.toList.length ≤ _; rw [Array.length_toList]; exact l8⟩⟩
set_option maxRecDepth 100000 in
/-- An act among the arguments. -/
theorem inAct_agg {H : Type} {enc : TypeId × Value → H} {W : World} {base n : Nat} {v : Value} {x : DataW H × List MemPlace} (hv : Value.okWide Tryz.prog W .any base 34 v) (h : DataW.trod enc Tryz.prog W 0 (fun _ => true) true n 34 v.cells.toList = some x) :
    ∃ a : Ac, v = .agg a.cells ∧ AcIn a := by
  obtain ⟨cs, rfl, hsz⟩ := okWide_struct Tryz.underlying34 hv
  rw [cellsOfA] at hsz
  have h' : DataW.trod enc Tryz.prog W 0 (fun _ => true) true n 34 cs.toList = some x := by simpa [Value.cells] using h
  obtain ⟨o, ho, hs⟩ := inAct (by simpa using hsz) h'
  refine ⟨o, ?_, hs⟩
  congr 1
  exact Array.toList_inj.1 ho
set_option maxRecDepth 100000 in
/-- Texts that came in. -/
theorem inStrs {H : Type} {enc : TypeId × Value → H} {W : World} {n : Nat} {v : Value} {x : DataW H × List MemPlace} (h : DataW.trod enc Tryz.prog W 0 (fun _ => true) true n 23 [v] = some x) :
    ∃ (a : Option Addr) (c : Nat) (l : List Bs), v = .slice a l.length c ∧ SRd W v l ∧ l.length ≤ maxLen ∧ ∀ s ∈ l, s.length ≤ maxLen := by
  rcases open_strings Tryz.underlying23 Tryz.underlying9 (by kernel_rfl) h with ⟨hcs, _⟩ | ⟨x, l, c, ss, hcs, _, hl, hm, hz, hxz, hcell, hwz⟩
  · simp at hcs
    subst hcs
    exact ⟨none, 0, [], rfl, .inl ⟨rfl, _, _, rfl⟩, by simp, by simp⟩
  · simp at hcs
    subst hcs
    have hzl : l ≤ ss.length := by rw [hz]; split <;> omega
    have hlen : ((ss.take l).map fun s => s.data.toList).length = l := by simp; omega
    refine ⟨some x, c, (ss.take l).map fun s => s.data.toList, by rw [hlen], ?_, by rw [hlen]; omega, ?_⟩
    · by_cases h0 : l = 0
      · subst h0; exact .inl ⟨by simp, _, _, rfl⟩
      · obtain ⟨b, off, spot⟩ := x
        have hc0 := hcell 0 (by omega)
        have hspot : spot = none := by simpa [Addr.add] using World.cell?_spot hc0
        subst hspot
        refine .inr ⟨b, off, c, by rw [hlen], ?_, fun i hi => ?_⟩
        · have := cell_lt hc0; rw [Addr.add_lit] at this; exact this
        · rw [hlen] at hi
          have h1 := hcell i (by omega)
          rw [Addr.add_lit] at h1
          rw [h1]
          have hi2 : i < ss.length := by omega
          simp [hi, hi2, str]
    · intro s hs
      obtain ⟨b, hb, rfl⟩ := List.mem_map.1 hs
      have := hwz b (List.mem_of_mem_take hb)
      rw [Array.length_toList]
      exact this
end Go.Proofs.YtbckogojnjmjcaaGreatDoor
