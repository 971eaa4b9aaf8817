/-
  The names of snapshots: the program's and the document's.
-/
import Derived.Test.YtadajbdmlmickaaGreatDoorLNam
import Derived.Test.YtadajbdmlmickaaGreatDoorBas
import Derived.Test.YtadajbdmlmickaaGreatDoorNum
import Derived.Shelf.Strconv.Itoa3
import Derived.Shelf.Strings.Repeat
import Derived.Shelf.Pu.ErrVarParseUint
import Derived.Shelf.Lay
import Derived.Lib.SmallJoins
namespace Go.Proofs.YtadajbdmlmickaaGreatDoor
open Go.RowKit Go.Shelf
set_option linter.unusedVariables false


theorem fItoa : Tryz.laysItoa_ren.f 171 = 91 := by kernel_rfl
theorem fRepeat : Tryz.laysRepeat_ren.f 105 = 92 := by kernel_rfl
theorem fPu : Tryz.laysPu14_ren.f 14 = 55 := by kernel_rfl
theorem extraB : Builder.Extra Tryz.prog Tryz.laysRepeat_ren where
  sizeBuilder := by kernel_rfl
  liesBuilder := by kernel_rfl
  t5 := Tryz.laysRepeat.t5
  a5 := Tryz.laysRepeat.a5
  z5 := Tryz.laysRepeat.z5
  v5 := Tryz.laysRepeat.v5
  infoByte := by kernel_rfl
  cellsByte := by kernel_rfl
  sizeByte := by kernel_rfl
  neB5 := by decide

/-- The library's variables read as they were laid. -/
structure Vars (w : World) : Prop where
  pow : Lib.TabIs Tryz.prog w "internal/strconv.uint64pow10" .u64 Lib.pow10Tab
  syn : ∃ tp q, w.var? Tryz.prog "strconv.ErrSyntax" = some #[.iface tp q]
  rng : ∃ tp q, w.var? Tryz.prog "strconv.ErrRange" = some #[.iface tp q]
theorem gPow : (Tryz.prog.globalNamed "internal/strconv.uint64pow10").isSome = true := by kernel_rfl
theorem gSyn : (Tryz.prog.globalNamed "strconv.ErrSyntax").isSome = true := by kernel_rfl
theorem gRng : (Tryz.prog.globalNamed "strconv.ErrRange").isSome = true := by kernel_rfl
theorem Vars.below {w w' : World} (h : Vars w) (hB : Below w.heap.size w w') : Vars w' := by
  obtain ⟨g1, h1⟩ := Option.isSome_iff_exists.1 gPow
  obtain ⟨g2, h2⟩ := Option.isSome_iff_exists.1 gSyn
  obtain ⟨g3, h3⟩ := Option.isSome_iff_exists.1 gRng
  obtain ⟨tp, q, hs⟩ := h.syn
  obtain ⟨tp', q', hr⟩ := h.rng
  exact ⟨Joins.tab_stays h1 h.pow hB (Nat.le_refl _), ⟨tp, q, Joins.var_stays h2 hs hB (Nat.le_refl _)⟩, ⟨tp', q', Joins.var_stays h3 hr hB (Nat.le_refl _)⟩⟩
/-- The name of a snapshot. -/
def nmL (n : Nat) : List UInt8 := [115, 110, 97, 112, 45] ++ low 19 n

theorem itoa_any (n : Nat) (h2 : n ≤ 4611686018427387904) (w : World) (hv : Vars w) : Calls Tryz.prog 91 #[.int .i64 (n : Int)] w fun e w' => e = .returned (.string ⟨(Lib.decDigits n).toArray⟩) ∧ Below w.heap.size w w' := by
  have h := Any.strconv_Itoa Tryz.laysItoa (n : Int) (by omega) (by omega) w hv.pow
  rw [fItoa, Lib.itoa_nonneg] at h
  refine h.mono ?_
  rintro e w' ⟨rfl, k, os, rfl⟩
  exact ⟨rfl, ⟨rfl, rfl, rfl, by show w.heap.size ≤ (w.heap ++ os).size; simp, fun i hi => by show (w.heap ++ os)[i]? = _; rw [Array.getElem?_append_left hi]⟩⟩
theorem repeat_any (c : Nat) (hc : c ≤ 100) (w : World) : Calls Tryz.prog 92 #[.string ⟨#[48]⟩, .int .i64 (c : Int)] w fun e w' => e = .returned (.string ⟨(List.replicate c (48 : UInt8)).toArray⟩) ∧ Below w.heap.size w w' := by
  have hb : 1 * c ≤ 140737488355328 := by omega
  have h := Any.strings_Repeat Tryz.laysRepeat extraB ⟨#[48]⟩ c w (by omega) (by show 1 * c ≤ _; exact hb)
  rw [fRepeat] at h
  refine h.mono fun e w' ⟨he, hw⟩ => ⟨?_, hw⟩
  rw [he]
  have e : Lib.repeatL (ByteArray.mk #[48]).data.toList c = List.replicate c 48 := by
    have := Lib.repeatL_replicate 48 1 c
    simpa using this
  rw [e]

end Go.Proofs.YtadajbdmlmickaaGreatDoor
