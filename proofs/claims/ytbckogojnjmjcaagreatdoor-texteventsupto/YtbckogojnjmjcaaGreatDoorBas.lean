/-
  What may turn; texts as values.
-/
import Derived.Test.YtbckogojnjmjcaaGreatDoorProg
import Derived.Test.YtbckogojnjmjcaaGreatDoorPl
import Derived.Test.YtbckogojnjmjcaaGreatDoorLy
import Derived.Test.YtbckogojnjmjcaaGreatDoorLyB
import Derived.Below
import Derived.WalkKit
import Derived.WalkSpells
import Derived.WalkLawsBesides
import Derived.BigQuiet
import Derived.Deep.QuietTactic
import Derived.Deep.RegionWith
import Derived.Laws.AppendOwnNone
import Derived.Maps.AppendAt
import Derived.Deep.RegionHeld3
import Derived.Deep.RegionLaw
import Derived.Lib.SmallJoins
import Derived.Handy
import Derived.Outline
namespace Go.Proofs.YtbckogojnjmjcaaGreatDoor
open Go.RowKit Go.Shelf

theorem fTrim : Tryz.laysTrim_ren.f 161 = 67 := by kernel_rfl
theorem fPre : Tryz.laysPre_ren.f 99 = 107 := by kernel_rfl
theorem fJoin : Tryz.laysJoin_ren.f 156 = 83 := by kernel_rfl
theorem fItoa : Tryz.laysItoa_ren.f 171 = 58 := by kernel_rfl
theorem fAtoi : Tryz.laysAtoi_ren.f 172 = 80 := by kernel_rfl
theorem fIdx : Tryz.laysIdx_ren.f 109 = 98 := by kernel_rfl
theorem fWB : Tryz.laysB_ren.f 167 = 38 := by kernel_rfl
theorem fWS : Tryz.laysB_ren.f 166 = 39 := by kernel_rfl
theorem fStr : Tryz.laysB_ren.f 169 = 41 := by kernel_rfl
theorem extraB : Builder.Extra Tryz.prog Tryz.laysB_ren where
  sizeBuilder := by kernel_rfl
  liesBuilder := by kernel_rfl
  t5 := Tryz.laysWB.t5
  a5 := Tryz.laysWB.a5
  z5 := Tryz.laysWB.z5
  v5 := Tryz.laysWB.v5
  infoByte := by kernel_rfl
  cellsByte := by kernel_rfl
  sizeByte := by kernel_rfl
  neB5 := by decide
theorem extraJ : Builder.Extra Tryz.prog Tryz.laysJoin_ren where
  sizeBuilder := by kernel_rfl
  liesBuilder := by kernel_rfl
  t5 := Tryz.underlying5
  a5 := Tryz.isAgg5
  z5 := Tryz.sizeOf5
  v5 := Tryz.zeroValue5
  infoByte := by kernel_rfl
  cellsByte := by kernel_rfl
  sizeByte := by kernel_rfl
  neB5 := by decide

/-- A text as a value. -/
def str (l : Bs) : Value := .string ⟨l.toArray⟩
/-- The library's variables read as they were laid. -/
structure Vars (w : World) : Prop where
  pow : Lib.TabIs Tryz.prog w "internal/strconv.uint64pow10" .u64 Lib.pow10Tab
  syn : ∃ tp q, w.var? Tryz.prog "strconv.ErrSyntax" = some #[.iface tp q]
  rng : ∃ tp q, w.var? Tryz.prog "strconv.ErrRange" = some #[.iface tp q]
theorem gPow : (Tryz.prog.globalNamed "internal/strconv.uint64pow10").isSome = true := by kernel_rfl
theorem gSyn : (Tryz.prog.globalNamed "strconv.ErrSyntax").isSome = true := by kernel_rfl
theorem gRng : (Tryz.prog.globalNamed "strconv.ErrRange").isSome = true := by kernel_rfl
theorem Vars.below {w w' : World} (h : Vars w) (hB : Below w.heap.size w w') : Vars w' := by
  obtain ⟨g1, h1⟩ := Option.isSome_iff_exists.1 gPow
  obtain ⟨g2, h2⟩ := Option.isSome_iff_exists.1 gSyn
  obtain ⟨g3, h3⟩ := Option.isSome_iff_exists.1 gRng
  obtain ⟨tp, q, hs⟩ := h.syn
  obtain ⟨tp', q', hr⟩ := h.rng
  exact ⟨Joins.tab_stays h1 h.pow hB (Nat.le_refl _), ⟨tp, q, Joins.var_stays h2 hs hB (Nat.le_refl _)⟩, ⟨tp', q', Joins.var_stays h3 hr hB (Nat.le_refl _)⟩⟩

theorem itoa_any (n : Int) (h1 : -9223372036854775808 ≤ n) (h2 : n ≤ 9223372036854775807) (w : World) (hv : Vars w) : Calls Tryz.prog 58 #[.int .i64 n] w fun e w' => e = .returned (str (Lib.itoa n)) ∧ Below w.heap.size w w' := by
  have h := Any.strconv_Itoa Tryz.laysItoa n h1 h2 w hv.pow
  rw [fItoa] at h
  refine h.mono ?_
  rintro e w' ⟨rfl, k, os, rfl⟩
  exact ⟨rfl, ⟨rfl, rfl, rfl, by show w.heap.size ≤ (w.heap ++ os).size; simp, fun i hi => by show (w.heap ++ os)[i]? = _; rw [Array.getElem?_append_left hi]⟩⟩
theorem passBlanks_any (s : Bs) (w : World) : Calls Tryz.prog 33 #[str s] w fun e w' => e = .returned (str (Lib.trimLeftB s 32)) ∧ w' = w := by
  have HT := Any.strings_TrimLeft_one Tryz.laysTrim ⟨s.toArray⟩ 32 (by decide)
  rw [fTrim] at HT
  unfold str
  go_enter Tryz.func33, Tryz.ntmps33
  go_wp2_with (go_at_call 67; refine (HT _).mono ?_; rintro e w1 ⟨rfl, hw⟩; subst w1)
  go_ret
  exact ⟨rfl, rfl⟩
end Go.Proofs.YtbckogojnjmjcaaGreatDoor
