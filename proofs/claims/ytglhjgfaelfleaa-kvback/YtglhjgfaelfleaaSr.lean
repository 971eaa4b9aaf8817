/-
  KvBack: a snapshot restored answers as the store does.
-/
import Derived.Test.YtglhjgfaelfleaaRd
import Derived.Test.YtglhjgfaelfleaaHg
namespace Go.Proofs.Ytglhjgfaelfleaa
open Go.RowKit
set_option linter.unusedVariables false

set_option maxRecDepth 100000 in
set_option maxHeartbeats 800000 in
/-- The same replies. -/
theorem sameR_any {W : World} {xa ya : Option Addr} {xc yc : Nat} {rs : List Rp} (hx : Ro RR 0 W (.slice xa rs.length xc) rs) (hy : Ro RR 0 W (.slice ya rs.length yc) rs) (hl : rs.length ≤ 1000) :
    Calls Try.prog 23 #[.slice xa rs.length xc, .slice ya rs.length yc] W fun e w' => e = .returned (.bool true) ∧ Below W.heap.size W w' := by
  have HX : Hid (Ro RR 0 W (.slice xa rs.length xc) rs) := hx
  have HY : Hid (Ro RR 0 W (.slice ya rs.length yc) rs) := hy
  clear hx hy
  go_enter Try.func23, Try.ntmps23
  go_wp2_with fail
  go_loopw [5] (fun kv wr => ∃ k : Nat, kv = .int .i64 (k : Int) ∧ k ≤ rs.length ∧ Below W.heap.size W wr) (fun kv _ => rs.length - (intOf kv).toNat)
  case atStart => exact ⟨0, rfl, Nat.zero_le _, Below.refl _ _⟩
  case round =>
    obtain ⟨k, rfl, hk, hB⟩ := hrel
    by_cases hlt : k < rs.length
    · have hlt' : (k : Int) < (rs.length : Int) := by omega
      have hi0 : (0 : Int) ≤ (k : Int) := by omega
      obtain ⟨xg, xc', hv, -, hxl, -, hcx⟩ := (HX.out.below hB (Nat.le_refl _)).at0 (by omega)
      cases hv
      obtain ⟨yg, yc', hv, -, hyl, -, hcy⟩ := (HY.out.below hB (Nat.le_refl _)).at0 (by omega)
      cases hv
      have x0 := hcx k 0 hlt (by decide)
      have x1 := hcx k 1 hlt (by decide)
      have y0 := hcy k 0 hlt (by decide)
      have y1 := hcy k 1 hlt (by decide)
      generalize rs[k] = r at *
      obtain ⟨rc, rv⟩ := r
      have x0' : wr.cell? ⟨xg, k * 2, none⟩ = some (.int .i64 rc) := x0
      have x1' : wr.cell? ⟨xg, k * 2 + 1, none⟩ = some (.string ⟨rv.toArray⟩) := x1
      have y0' : wr.cell? ⟨yg, k * 2, none⟩ = some (.int .i64 rc) := y0
      have y1' : wr.cell? ⟨yg, k * 2 + 1, none⟩ = some (.string ⟨rv.toArray⟩) := y1
      have HB : Hid (Below W.heap.size W wr) := hB
      clear hcx hcy x0 x1 y0 y1 hB
      go_wp2_with fail
      go_quiet (fail)
      go_wp2
      go_roundw
      case rel => exact ⟨k + 1, by go_num, by omega, Below.drewN' HB.out _⟩
      case measure => simp [intOf]; omega
    · have hlt' : decide ((k : Int) < (rs.length : Int)) = false := by simp; omega
      go_wp2
      go_ret
      exact ⟨rfl, hB⟩
end Go.Proofs.Ytglhjgfaelfleaa
