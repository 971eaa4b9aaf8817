/-
  Contracts of the library at this program: BinarySearch of integers; upTo.
-/
import Derived.Shelf.Slices.SearchI
import Derived.Shelf.Slices.Empties
import Derived.Ground.NamesProg
import Derived.Test.YtnahghldlkjleaaGreatDoorWA
namespace Go.Proofs
open Go.Shelf
def Tryz.laysSea_ren : Go.Shelf.Ren := ⟨fun | 25 => 187 | 31 => 230 | 32 => 231 | 37 => 268 | n => n, fun | 0 => 0 | 3 => 3 | 4 => 4 | 22 => 81 | 40 => 199 | n => n, fun | n => n⟩
theorem Tryz.laysSea : Go.Proofs.Lays2.n25 Tryz.prog Tryz.laysSea_ren := {
  mixed := by kernel_rfl
  f25 := Tryz.func187.trans (congrArg some (by kernel_rfl))
  f31 := Tryz.func230.trans (congrArg some (by kernel_rfl))
  f32 := Tryz.func231.trans (congrArg some (by kernel_rfl))
  f37 := Tryz.func268.trans (congrArg some (by kernel_rfl))
  t0 := Tryz.underlying0
  a0 := Tryz.isAgg0
  z0 := Tryz.sizeOf0
  v0 := Tryz.zeroValue0
  t3 := Tryz.underlying3
  a3 := Tryz.isAgg3
  z3 := Tryz.sizeOf3
  v3 := Tryz.zeroValue3
  t4 := Tryz.underlying4
  a4 := Tryz.isAgg4
  z4 := Tryz.sizeOf4
  v4 := Tryz.zeroValue4
  t22 := Tryz.underlying81
  a22 := Tryz.isAgg81
  z22 := Tryz.sizeOf81
  v22 := Tryz.zeroValue81
  t40 := Tryz.underlying199
  a40 := Tryz.isAgg199
  z40 := Tryz.sizeOf199
  v40 := Tryz.zeroValue199 }
end Go.Proofs
namespace Go.Proofs.YtnahghldlkjleaaGreatDoor
open Go.RowKit
set_option linter.unusedVariables false

theorem fSea : Tryz.laysSea_ren.f 25 = 187 := by kernel_rfl
set_option maxRecDepth 100000 in
set_option maxHeartbeats 1000000 in
theorem upTo_any {L : Nat → Prop} {w : World} {b : Nat} {P : LP} (h : Lj L w b P) (hs : P.S.Pairwise (· ≤ ·)) (sg : Nat) (hsg : sg ≤ 99999999) :
    Calls Tryz.prog 138 #[.pointer (some ⟨b, 0, none⟩), .int .i64 (sg : Int)] w fun e w' => e = .returned (.int .i64 (P.S.countP (· ≤ sg) : Nat)) ∧ ∃ q, w' = w.drewN q := by
  obtain ⟨va, vc, sa, sc, es, mb, c, hb, -, -, -, -, -, -, hsm, hr, -⟩ := h.cells
  obtain ⟨⟨-, -, -, -, -, -, c6, -⟩, -⟩ := cells8 hb
  have hlen := h.ok.len
  have hfew := h.ok.few
  have HS : Hid (Calls Tryz.prog 187 #[.slice sa P.E.length sc, .int .i64 ((sg : Int) + 1)] w fun e w' => ∃ bl, e = .returned (.tuple #[.int .i64 (P.S.countP (· ≤ sg) : Nat), .bool bl]) ∧ ∃ q, w' = w.drewN q) := by
    by_cases hz : P.S.length = 0
    · have hz2 : P.S = [] := List.length_eq_zero_iff.1 hz
      rw [show P.E.length = 0 by omega, hz2]
      have := Any.slices_BinarySearch_int_empty Tryz.laysSea sa sc ((sg : Int) + 1) w
      rw [fSea] at this
      exact this.mono fun e w' ⟨he, hw⟩ => ⟨false, he, 0, hw⟩
    · obtain ⟨g, cap, he, -, hg, -, hc⟩ := hr.at0 (by omega)
      have h9 : sa = some ⟨g, 0, none⟩ ∧ sc = cap := by
        have := he
        simp only [Value.slice.injEq] at this
        exact ⟨this.1, this.2.2⟩
      have h91 := h9.1
      have h92 := h9.2
      subst h91 h92
      have := Any.slices_BinarySearch_int Tryz.laysSea g 0 P.E.length sc (P.S.map Int.ofNat) ((sg : Int) + 1) w (by simp [hlen]) (by omega) (fun j hj => by
        have h3 := hc j 0 (by simpa using hj) (by decide)
        rw [show j * RI.k + 0 = j by show j * 1 + 0 = j; omega] at h3
        rw [Nat.zero_add, h3]
        show some (Value.int .i64 _) = _
        rw [List.getD_eq_getElem?_getD, List.getElem?_map, List.getElem?_eq_getElem (by simpa using hj)]
        rfl) (by rw [List.take_of_length_le (by simp [hlen])]; exact List.pairwise_map.2 (hs.imp fun h => by exact Int.ofNat_le.2 h))
      rw [fSea, List.take_of_length_le (by simp [hlen])] at this
      refine this.mono ?_
      rintro e w' ⟨rfl, q, rfl⟩
      have hcp : List.countP (fun x => decide (x < (sg : Int) + 1)) (List.map Int.ofNat P.S) = List.countP (fun x => decide (x ≤ sg)) P.S := by
        rw [List.countP_map]
        refine List.countP_congr fun x _ => ?_
        show decide (Int.ofNat x < (sg : Int) + 1) = true ↔ decide (x ≤ sg) = true
        rw [decide_eq_true_iff, decide_eq_true_iff]
        show (x : Int) < (sg : Int) + 1 ↔ x ≤ sg
        omega
      refine ⟨(List.map Int.ofNat P.S).contains ((sg : Int) + 1), ?_, q, rfl⟩
      rw [hcp]
  have hw1 : IntKind.i64.wrap ((sg : Int) + 1) = (sg : Int) + 1 := by rw [IntKind.wrap_i64]; omega
  generalize P.S.countP (· ≤ sg) = n at *
  clear h hr hs hb
  generalize P.E.length = m at *
  go_enter Tryz.func138, Tryz.ntmps138
  go_wp2_with (go_at_call 187; refine HS.out.mono ?_; rintro e w1 ⟨bl, rfl, q, rfl⟩)
  go_ret
  exact ⟨rfl, q, rfl⟩
end Go.Proofs.YtnahghldlkjleaaGreatDoor
