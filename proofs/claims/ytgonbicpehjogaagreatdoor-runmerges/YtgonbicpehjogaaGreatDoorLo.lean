/-
  The program's types lie as laid: a piece at a time.
-/
import Derived.Test.YtgonbicpehjogaaGreatDoorRows
import GoSem.ClaimDataLaid
namespace Go.Proofs.YtgonbicpehjogaaGreatDoor
open Go
theorem sz : Tryz.prog.types.size = 694 := by kernel_rfl
theorem lo0 : (List.range' 0 50).all (rowFine Tryz.prog) = true := by kernel_rfl
theorem lo50 : (List.range' 50 50).all (rowFine Tryz.prog) = true := by kernel_rfl
theorem lo100 : (List.range' 100 50).all (rowFine Tryz.prog) = true := by kernel_rfl
theorem lo150 : (List.range' 150 50).all (rowFine Tryz.prog) = true := by kernel_rfl
theorem lo200 : (List.range' 200 50).all (rowFine Tryz.prog) = true := by kernel_rfl
theorem lo250 : (List.range' 250 50).all (rowFine Tryz.prog) = true := by kernel_rfl
theorem lo300 : (List.range' 300 50).all (rowFine Tryz.prog) = true := by kernel_rfl
theorem lo350 : (List.range' 350 50).all (rowFine Tryz.prog) = true := by kernel_rfl
theorem lo400 : (List.range' 400 50).all (rowFine Tryz.prog) = true := by kernel_rfl
theorem lo450 : (List.range' 450 50).all (rowFine Tryz.prog) = true := by kernel_rfl
theorem lo500 : (List.range' 500 50).all (rowFine Tryz.prog) = true := by kernel_rfl
theorem lo550 : (List.range' 550 50).all (rowFine Tryz.prog) = true := by kernel_rfl
theorem lo600 : (List.range' 600 50).all (rowFine Tryz.prog) = true := by kernel_rfl
theorem lo650 : (List.range' 650 44).all (rowFine Tryz.prog) = true := by kernel_rfl
theorem lo_gl : Tryz.prog.globals.all (fun g => decide (g.type < Tryz.prog.types.size)) = true := by kernel_rfl
theorem lo_fu : Tryz.prog.funcs.all (fun f => f.params.all fun t => decide (t < Tryz.prog.types.size)) = true := by kernel_rfl
theorem lo_at {a n t : Nat} (h : (List.range' a n).all (rowFine Tryz.prog) = true) (h1 : a ≤ t) (h2 : t < a + n) : rowFine Tryz.prog t = true :=
  List.all_eq_true.1 h t (List.mem_range'_1.2 ⟨h1, h2⟩)
theorem lo_all (t : Nat) (h : t < 694) : rowFine Tryz.prog t = true := by
  by_cases h0 : t < 50
  · exact lo_at lo0 (by omega) (by omega)
  by_cases h50 : t < 100
  · exact lo_at lo50 (by omega) (by omega)
  by_cases h100 : t < 150
  · exact lo_at lo100 (by omega) (by omega)
  by_cases h150 : t < 200
  · exact lo_at lo150 (by omega) (by omega)
  by_cases h200 : t < 250
  · exact lo_at lo200 (by omega) (by omega)
  by_cases h250 : t < 300
  · exact lo_at lo250 (by omega) (by omega)
  by_cases h300 : t < 350
  · exact lo_at lo300 (by omega) (by omega)
  by_cases h350 : t < 400
  · exact lo_at lo350 (by omega) (by omega)
  by_cases h400 : t < 450
  · exact lo_at lo400 (by omega) (by omega)
  by_cases h450 : t < 500
  · exact lo_at lo450 (by omega) (by omega)
  by_cases h500 : t < 550
  · exact lo_at lo500 (by omega) (by omega)
  by_cases h550 : t < 600
  · exact lo_at lo550 (by omega) (by omega)
  by_cases h600 : t < 650
  · exact lo_at lo600 (by omega) (by omega)
  by_cases h650 : t < 694
  · exact lo_at lo650 (by omega) (by omega)
  omega
theorem lo_range : (List.range Tryz.prog.types.size).all (rowFine Tryz.prog) = true :=
  List.all_eq_true.2 fun t ht => lo_all t (Nat.lt_of_lt_of_eq (List.mem_range.1 ht) sz)
theorem laidOut : laidOutB Tryz.prog = true := by
  unfold laidOutB
  exact Bool.and_eq_true_iff.2 ⟨Bool.and_eq_true_iff.2 ⟨lo_range, lo_gl⟩, lo_fu⟩
end Go.Proofs.YtgonbicpehjogaaGreatDoor
