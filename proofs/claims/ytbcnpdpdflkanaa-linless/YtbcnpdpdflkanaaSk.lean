/-
  Where a search stands as a map's key; the set of those that failed.
-/
import Derived.Test.YtbcnpdpdflkanaaFo
import Derived.DeepKeys4
namespace Go.Proofs.Ytbcnpdpdflkanaa
open Go.RowKit

theorem laidOut : laidOutB Try.prog = true := by kernel_rfl
theorem keyedS : Maps.Keyed Try.prog 73 := Maps.Keyed.of_law (deep_law_laid laidOut (m := 2) (by omega) (of_decide_eq_true (by kernel_rfl)) (by kernel_rfl) (by kernel_rfl))
theorem min_u64 : IntKind.u64.min = 0 := by decide
theorem max_u64 : IntKind.u64.max = 18446744073709551615 := by decide
theorem wf_u64 {n : Nat} (h : n < 18446744073709551616) : (Lit.int .u64 (n : Int)).wf = true := by
  show (decide (IntKind.u64.min ≤ (n : Int)) && decide ((n : Int) ≤ IntKind.u64.max)) = true
  rw [min_u64, max_u64, Bool.and_eq_true, decide_eq_true_eq, decide_eq_true_eq]
  omega
theorem sizeT : ∃ n, Try.prog.types.size = n + 1 := ⟨Try.prog.types.size - 1, by have : 0 < Try.prog.types.size := of_decide_eq_true (by kernel_rfl); omega⟩

theorem lits_b {n : Nat} (th : Bool) : Try.prog.keyLits (n + 1) 4 [.bool th] = some [.bool th] := by simp only [Program.keyLits, Try.underlying4]
theorem lits_u {n d : Nat} (hd : d < 18446744073709551616) : Try.prog.keyLits (n + 1) 68 [.int .u64 (d : Int)] = some [.int .u64 (d : Int)] := by
  simp only [Program.keyLits, Try.underlying68, wf_u64 hd, and_self, if_true]
theorem lits_s {n : Nat} {v : Bs} (hv : v.length ≤ maxLen) : Try.prog.keyLits (n + 1) 9 [str v] = some [.string v] := by
  unfold str
  simp only [Program.keyLits, Try.underlying9]
  rw [if_pos (by simpa [ByteArray.size] using hv)]
theorem cellsU : Try.prog.cellsOf 68 = 1 := by kernel_rfl
theorem cellsB : Try.prog.cellsOf 4 = 1 := by kernel_rfl
theorem cellsS : Try.prog.cellsOf 9 = 1 := by kernel_rfl
theorem cellsP : Try.prog.cellsOf 73 = 3 := by kernel_rfl
theorem keyT : Try.prog.keyType 73 = true := by kernel_rfl

/-- The key of where a search stands. -/
def kl (d : Nat) (th : Bool) (v : Bs) : Lit := .string (keyBytes [.int .u64 (d : Int), .bool th, .string v])
theorem kl_eq {d : Nat} (hd : d < 18446744073709551616) (th : Bool) {v : Bs} (hv : v.length ≤ maxLen) : keyOf Try.prog 73 (spV d th v) = some (kl d th v) := by
  obtain ⟨n, hn⟩ := sizeT
  have h1 : Try.prog.keyLits (n + 1 + 1) 73 [.int .u64 (d : Int), .bool th, str v] = some [.int .u64 (d : Int), .bool th, .string v] := by
    unfold Program.keyLits
    simp only [Try.underlying73, cellsP]
    rw [if_pos ⟨rfl, by kernel_rfl⟩]
    simp [cellsU, cellsB, cellsS, lits_u hd, lits_b th, lits_s hv]
  unfold keyOf spV kl
  simp only [Try.underlying73, keyT, Bool.true_and, Value.formed, cellsP, hn]
  rw [if_pos (by rfl)]
  have h2 : (Value.agg #[.int .u64 (d : Int), .bool th, str v]).cells.toList = [.int .u64 (d : Int), .bool th, str v] := rfl
  rw [h2, h1]
  rfl
theorem kl_inj {d d' : Nat} {th th' : Bool} {v v' : Bs} (hd : d < 18446744073709551616) (hv : v.length ≤ maxLen) (hd' : d' < 18446744073709551616) (hv' : v'.length ≤ maxLen) (h : kl d th v = kl d' th' v') : d = d' ∧ th = th' ∧ v = v' := by
  have h1 := kl_eq hd th hv
  have h2 := kl_eq hd' th' hv'
  rw [h] at h1
  have := keyedS.inj h1 h2
  unfold spV str at this
  simp at this
  exact ⟨by omega, this.2.1, this.2.2⟩
theorem zero74 (w : World) : (zeroValue 74).run Try.prog w = .ok (.agg #[]) w := by simp [Try.zeroValue74]
end Go.Proofs.Ytbcnpdpdflkanaa
