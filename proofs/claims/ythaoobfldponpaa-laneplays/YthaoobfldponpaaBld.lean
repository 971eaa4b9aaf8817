/-
  Two operations of a drawn region.
-/
import Derived.Test.YthaoobfldponpaaLas
import Derived.Deep.RegionHeld
namespace Go.Proofs.Ythaoobfldponpaa
open Go.RowKit
set_option linter.unusedVariables false
theorem mem_of_contains {l : List Nat} {i : Nat} (h : l.contains i = true) : i ∈ l := by simpa using h
theorem build0 (a : Operand → Value) (w : World) : ∃ v o, (execOp a { dst := some 105, op := .buildSlice 26 0 #[], type := 26, pos := "law.go:198", after := #[], guard := none }).run Try.prog w = .ok (.value v) (w.alloc o) := ⟨.slice (some ⟨w.heap.size, 0, none⟩) 0 0, .cells #[] 3, by kernel_rfl⟩
theorem build1 (a : Operand → Value) (w : World) : (∃ v o, (execOp a { dst := some 114, op := .buildSlice 26 1 #[(0, .tmp 113)], type := 26, pos := "law.go:198", after := #[{ on := 11, ground := .data }], guard := none }).run Try.prog w = .ok (.value v) (w.alloc o)) ∨ (∃ x w', (execOp a { dst := some 114, op := .buildSlice 26 1 #[(0, .tmp 113)], type := 26, pos := "law.go:198", after := #[{ on := 11, ground := .data }], guard := none }).run Try.prog w = .halt x w') := by
  obtain ⟨i0, hi, hz0, hz1, hz2⟩ := info_parts info
  by_cases h1 : (a (.tmp 113)).cells.size = 1
  · left
    simp [execOp, Instr.buildSlice, run_underlying Try.underlying26, sizeOf, typeInfo, hi, hz1, zeroValue, hz0, Instr.fill, h1]
    exact ⟨_, _, rfl⟩
  · right
    simp [execOp, Instr.buildSlice, run_underlying Try.underlying26, sizeOf, typeInfo, hi, hz1, zeroValue, hz0, Instr.fill, h1]
end Go.Proofs.Ythaoobfldponpaa
